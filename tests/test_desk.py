"""Desks: each line beside what the house and the functions tell."""

import random
import unittest

from hungfacts.desk import Desk
from hungfacts.errors import (BadDrops, BadLine, BadRoots, BadStored, BadText, BadUnit, BadUnits, BadValues, Ended, HungError,
                              NoFunction, NoName, NoRoot, NoRun, NotEditions, NothingToRedo, NothingToUndo, NoUnit)
from hungfacts.clauses import clauses
from hungfacts.facttexts import show_fact
from hungfacts.house import House
from hungfacts.maderuns import run_made
from hungfacts.parting import alike
from hungfacts.solving import shows_way, way
from hungfacts.stored import stored
from hungfacts.whys import why
from tests.edits import edited_text
from tests.helper import fact, unit
from tests.kinds import KINDS
from tests.makers import ProgramMaker
from tests.test_house import A, B, C, HouseTest, more_told, some, texts
from tests.test_house_runs import G, LONG, shifted, stand
from tests.test_solving import FOUR, MAIN
from tests.helper import program

WORDS = ("ON", "OFF")
LINES = ("put {c}", "drop c", "undo", "redo", "run a f 3", "is called a f", "way called a f", "made a", "origin a 1", "why a",
         "alike b {b}", "times a", "start a f 3", "step 0", "back 0", "value 0 p", "behind")
FULL = {"c": C, "b": B}


class DeskTest(HouseTest):
    def desk(self, *given, roots=(("a", "f"),), budget=0, words=WORDS):
        return Desk(stored(House(program(given, roots, words), budget=budget)))

    def raises(self, error, desk, line):
        """What an error keeps; it changes nothing."""
        before = (more_told(desk.house), stand(desk.house), self.whys(desk))
        with self.assertRaises(error) as caught:
            desk.say(line)
        self.assertEqual((more_told(desk.house), stand(desk.house), self.whys(desk)), before)
        return next(iter(vars(caught.exception).values()), None)

    def whys(self, desk):
        return [desk.say(f"why {name}") for name in desk.house.program.names]


class TestDesk(DeskTest):
    def test_section_17(self):
        desk = Desk(stored(House(program(FOUR, MAIN))))
        self.assertEqual([desk.say("run m main"), desk.say("is called b g"), desk.say("put unit m / open main / call x k.k ON / end")],
                         ["raised BAD k:4 c:3 b:3 m:4", "yes 11", "b c k m"])
        self.assertEqual([desk.say("why k"), desk.say("made c"), desk.say("undo")],
                         ["called b g; at b 3; called c h; at c 3; holds k k 0 NONE; yes k 3", "unit c", "b c k m"])

    def test_house(self):
        desk = self.desk(A, B, budget=3)
        self.assertIn("house", vars(desk))
        self.assertTrue(desk.house == House(some(A, B), budget=3))
        self.assertRaises(NothingToUndo, desk.house.undo)

    def test_raises_as_read_house(self):
        for value in KINDS:
            with self.assertRaises(BadText) as caught:
                Desk(value)
            self.assertEqual(caught.exception.line, 1 if isinstance(value, str) else 0)
        text = stored(House(some(A, B)))
        with self.assertRaises(BadText) as caught:
            Desk(text + "\n")
        self.assertEqual(caught.exception.line, text.count("\n") + 2)
        with self.assertRaises(BadStored) as caught:
            Desk(text.replace("budget 0", "budget 100"))
        self.assertEqual(caught.exception.value, ("program",))

    def test_names_of_arguments(self):
        desk = Desk(text=stored(House(some(A, B))))
        self.assertEqual(desk.say(line="times a"), "1")


class TestEdits(DeskTest):
    def test_put(self):
        desk = self.desk(A, B)
        self.assertEqual(desk.say("put " + C), "c")
        self.look(desk.house, some(A, B, C))
        self.assertEqual(desk.say("put " + C), "-")
        self.assertEqual(desk.say("put " + B.replace("show q", "show 1")), "a b")
        self.assertEqual([desk.house.edits, desk.say("times a"), desk.say("times c")], [3, "2", "1"])

    def test_ends_of_lines(self):
        desk = self.desk(A, B)
        # A / that is the first or the last word stands for itself; what has no blanks beside it is no end of a line.
        for text, line in (("/", 1), ("/ unit c / open h / end", 1), ("unit c / open h / end /", 3), ("unit c/open h/end", 1),
                           ("unit c / open h / show 1/ end", 3), ("unit c / / open h / end", 2), ("unit c / open h / end / /", 4),
                           ("unit", 1), ("unit c / open h", 3), ("unit c /", 1)):
            self.assertEqual(self.raises(BadUnit, desk, "put " + text), line)
            self.assertEqual(self.raises(BadUnit, desk, "alike a " + text), line)
        self.assertEqual(desk.say("put unit c / open h / end"), "c")

    def test_drop(self):
        desk = self.desk(A, B, C)
        self.assertEqual(desk.say("drop c"), "-")
        self.look(desk.house, some(A, B))
        self.assertEqual(self.raises(BadDrops, desk, "drop c"), ("c",))
        self.assertEqual(self.raises(BadDrops, desk, "drop C:"), ("C:",))
        self.assertEqual(self.raises(NoFunction, desk, "drop b"), ("a", 3))
        self.assertEqual(self.raises(BadRoots, desk, "drop a"), (("a", "f"),))
        desk = self.desk("unit a / open f / end")
        self.assertEqual(self.raises(BadUnits, desk, "drop a"), ())

    def test_put_raises_as_edit(self):
        desk = self.desk(A, B)
        self.assertEqual(self.raises(NoFunction, desk, "put unit b / open h / end"), ("a", 3))
        self.assertEqual(self.raises(BadRoots, desk, "put unit a / open h / end"), (("a", "f"),))
        self.assertEqual(self.raises(BadUnit, desk, "put unit a / open f p / show z / end"), 3)

    def test_undo_and_redo(self):
        desk = self.desk(A, B)
        self.assertIsNone(self.raises(NothingToUndo, desk, "undo"))
        self.assertIsNone(self.raises(NothingToRedo, desk, "redo"))
        desk.say("put " + B.replace("show q", "show 1"))
        self.assertEqual([desk.say("undo"), desk.house.edits, desk.say("redo"), desk.house.edits], ["a b", 0, "a b", 1])
        self.assertIsNone(self.raises(NothingToRedo, desk, "redo"))
        desk.say("undo")
        desk.say("put " + C)
        self.assertIsNone(self.raises(NothingToRedo, desk, "redo"))
        self.assertEqual([desk.say("undo"), desk.say("redo")], ["-", "c"])


class TestAnswers(DeskTest):
    def test_run(self):
        desk = self.desk("unit a / open f p / show p / show -3 / give p / end / open g / end / open h / while ON is ON / end / end"
                         " / open k p q / raise p / end", roots=(("a", "f"), ("a", "g"), ("a", "h"), ("a", "k")))
        self.assertEqual(desk.say("run a f ON"), "gave ON; ON -3")
        self.assertEqual(desk.say("run a f -17"), "gave -17; -17 -3")
        self.assertEqual(desk.say("run a f NONE"), "gave NONE; NONE -3")
        self.assertEqual([desk.say("run a g"), desk.say("run a h")], ["gave NONE", "tired"])
        self.assertEqual([desk.say("run a k OFF 999999999"), desk.say("run a k 0 0")], ["raised OFF a:14", "raised BAD a:14"])

    def test_run_with_places(self):
        for budget in (0, 1):
            desk = self.desk("unit a / open f p / show p / call x b.g p / end", "unit b / open g q / let y q + 1 / give y / end", budget=budget)
            self.assertEqual(desk.say("run a f ON"), "raised BAD b:3 a:4; ON")

    def test_five_hundred_goes(self):
        text = "unit a / open f p / let n 0 / while n < p / set n n + 1 / end / give n / end"
        desk = self.desk(text)
        # One go for the call, one for each test.
        self.assertEqual([desk.say("run a f 498"), desk.say("run a f 499")], ["gave 498", "tired"])

    def test_run_raises(self):
        desk = self.desk(A, B)
        self.assertEqual(self.raises(NoRoot, desk, "run b g 1"), ("b", "g"))
        self.assertEqual(self.raises(NoRoot, desk, "run B: g/ 1"), ("B:", "g/"))
        self.assertEqual(self.raises(BadValues, desk, "run a f"), ())
        self.assertEqual(self.raises(BadValues, desk, "run a f AB"), ("AB",))
        self.assertEqual(self.raises(BadValues, desk, "run a f ON 1"), ("ON", 1))

    def test_is(self):
        desk = self.desk(A, B, C)
        ranks = dict(desk.house.facts())
        for head, _ in clauses(desk.house.program):
            expected = f"yes {ranks[head]}" if head in ranks else "no"
            self.assertEqual(desk.say("is " + show_fact(head)), expected)
        self.assertEqual([desk.say("is called a f"), desk.say("is at z 999999999")], ["yes 1", "no"])

    def test_way(self):
        desk = self.desk(A, B, C)
        self.assertEqual(desk.say("way called a f"), "called a f")
        self.assertEqual(desk.say("way called b g"), "called a f; at a 3; called b g")
        self.assertEqual(desk.say("way called c h"), "-")
        for each, _ in desk.house.facts():
            shown = desk.say("way " + show_fact(each))
            self.assertEqual([fact(text) for text in shown.split("; ")], [head for head, _ in way(desk.house.program, each)])
            self.assertTrue(shows_way(desk.house.program, each, way(desk.house.program, each)))

    def test_what_is_no_fact(self):
        desk = self.desk(A, B)
        for word in ("is", "way"):
            for text in ("a", "called", "called a", "at a 0", "at a 03", "at a b", "holds a f 3 ON", "called a f f", "raises a f num", "CALLED a f"):
                self.assertEqual(self.raises(BadText, desk, f"{word} {text}"), 0)

    def test_made_and_origin(self):
        for budget in (0, 1):
            desk = self.desk("unit a / open f p / call x b.g p / show x / end", "unit b / open g q / show q / give q / end", budget=budget)
            for name in "ab":
                found = desk.house.made(name)
                self.assertEqual(desk.say(f"made {name}"), found.text.replace("\n", " / "))
                for at, origin in enumerate(found.origins):
                    self.assertEqual(desk.say(f"origin {name} {at + 1}"), " ".join([f"{unit}:{line}" for unit, line in origin]))
                for line in (0, len(found.origins) + 1, 9999):
                    said = f"origin {name} {line}"
                    self.assertIs(self.raises(BadLine, desk, said), said)
        self.assertEqual(desk.say("made a"), "unit a / open f p / let x0 p / show x0 / let x x0 / show x / end")
        self.assertEqual([desk.say("origin a 3"), desk.say("origin a 4")], ["a:3", "b:3 a:3"])
        for said in ("made c", "origin c 1", "origin c 0", "origin A: 9999", "times c", "why c", "alike c x", "alike c /"):
            self.assertEqual(self.raises(NoUnit, desk, said), said.split(" ")[1])

    def test_times(self):
        desk = self.desk(A, B)
        desk.say("put " + B.replace("show q", "show 1"))
        self.assertEqual([desk.say("times a"), desk.say("times b")], ["2", "2"])
        desk.say("undo")
        self.assertEqual(desk.say("times a"), "1")

    def test_alike(self):
        desk = self.desk(A, B)
        self.assertEqual(desk.say("alike b " + B), "yes")
        self.assertEqual(desk.say("alike b unit b / open g q / show 1 / show q / end"), "yes")
        self.assertEqual(desk.say("alike b unit b / open g q / show 1 / end"), "no")
        self.assertIsNone(self.raises(NotEditions, desk, "alike b " + C))
        self.assertIsNone(self.raises(NotEditions, desk, "alike b unit b / open g / end"))
        self.assertEqual(self.raises(BadUnit, desk, "alike b unit b / open g q / show A / end"), 3)
        # What it has is no part of what is asked.
        self.look(desk.house, some(A, B))
        desk = self.desk("unit main / open f / end", roots=(("main", "f"),))
        self.assertEqual(desk.say("alike main unit main / open f / give ON / end"), "no")


class TestWhy(DeskTest):
    def test_no_change(self):
        desk = self.desk(A, B)
        self.assertEqual([desk.say("why a"), desk.say("why b")], ["-", "-"])
        self.assertEqual(self.raises(NoUnit, desk, "why c"), "c")

    def test_each_kind(self):
        desk = self.desk("unit a / open f p / call x b.g p / show x / end", "unit b / open g q / show q / give q / end", C, budget=1)
        desk.say("put unit c2 / open h / end")
        self.assertEqual([desk.say("why c2"), desk.say("why a"), desk.say("why c")], ["new", "-", "-"])
        desk.say("put unit b / open g q / show 1 / give q / end")
        self.assertEqual([desk.say("why b"), desk.say("why a"), desk.say("why c2")], ["text", "text b", "-"])
        desk.say("put unit b / open g q / show 1 / show 2 / show 3 / give q / end")
        self.assertEqual([desk.say("why b"), desk.say("why a")], ["text", "calls"])
        desk.say("put unit b / open g q / give ON / end")
        desk.say("put unit b / open g q / show 1 / show 2 / show 3 / give ON / end")
        desk.say("put unit b / open g q / show 1 / show 2 / show 3 / give OFF / end")
        self.assertEqual(desk.say("why a"), "gives b g OFF; holds a f x OFF")

    def test_last_change_is_that_of_the_desk(self):
        desk = self.desk(A, B)
        desk.say("put " + B.replace("show q", "show 1"))
        self.assertEqual([desk.say("why a"), desk.say("why b")], ["needs b g 0", "text"])
        for said in ("run a f 1", "is called a f", "behind", "start a f 1", "step 0", "times a"):
            desk.say(said)
            self.assertEqual(self.whys(desk), ["needs b g 0", "text"])
        desk.house.edit(texts(C))
        self.assertEqual(self.whys(desk), ["needs b g 0", "text", "-"])
        desk.house.undo()
        self.assertEqual(self.raises(NoUnit, desk, "why c"), "c")
        desk.say("undo")
        self.assertEqual(self.whys(desk), ["needs b g 0", "text"])
        desk.say("redo")
        self.assertEqual(self.whys(desk), ["needs b g 0", "text"])
        desk.say("put " + C)
        self.assertEqual(self.whys(desk), ["-", "-", "new"])
        desk.say("drop c")
        self.assertEqual(self.whys(desk), ["-", "-"])

    def test_errors_leave_it(self):
        desk = self.desk(A, B)
        desk.say("put " + B.replace("show q", "show 1"))
        for said in ("put unit", "drop a", "drop z", "redo", "put " + B.replace("g q", "g"), "nothing", "undo undo", "why", "step 0"):
            self.raises(HungError, desk, said)
        self.assertEqual(self.whys(desk), ["needs b g 0", "text"])

    def test_beside_why(self):
        seen = set()
        for seed in range(60):
            luck = random.Random(seed)
            maker = ProgramMaker(seed, many=3, lines=(4, 20), small=0.7)
            desk = Desk(stored(House(maker.program, budget=luck.choice((0, 1, 99)))))
            for _ in range(6):
                name = luck.choice(desk.house.program.names)
                text = edited_text(desk.house.program.unit(name).text, luck)
                double = desk.house.copy()
                try:
                    change = double.edit((text,))
                except HungError as error:
                    self.raises(type(error), desk, "put " + text.replace("\n", " / "))
                    continue
                self.assertEqual(desk.say("put " + text.replace("\n", " / ")), " ".join([each for each, _ in change.anew]) or "-")
                self.assertTrue(desk.house == double)
                for each in desk.house.program.names:
                    reason = dict(change.anew).get(each)
                    if reason is None:
                        expected = "-"
                    elif reason[0] != "answer":
                        expected = reason[0]
                    else:
                        found = why(change, each)
                        expected = {"calls": "calls", "text": f"text {found[1]}"}.get(found[0]) or "; ".join([show_fact(row) for row in found[1]])
                    seen.add(expected.split(" ")[0])
                    self.assertEqual(desk.say(f"why {each}"), expected)
        self.assertLessEqual({"-", "text", "calls"}, seen)
        self.assertGreater(len(seen), 3)


class TestRuns(DeskTest):
    def test_steps(self):
        for budget in (0, 1):
            desk = self.desk(LONG, G, budget=budget)
            self.assertEqual([desk.say("start a f 7"), desk.say("start a f OFF")], ["0", "1"])
            expected = ["a:4", "a:5", "b:3 a:5", "b:4 a:5", "b:5 a:5", "a:6", "a:7", "gave NONE; 1 2 7 7 3"]
            if budget:
                del expected[1]
            self.assertEqual([desk.say("step 0") for _ in expected], expected)
            self.assertIsNone(self.raises(Ended, desk, "step 0"))
            self.assertEqual([desk.say("back 0") for _ in expected], expected[-2::-1] + ["a:3"])
            self.assertIsNone(self.raises(Ended, desk, "back 0"))
            self.assertEqual(desk.say("step 1"), "a:4")
            self.assertEqual(self.raises(NoRun, desk, "step 2"), 2)
            self.assertEqual(self.raises(NoRun, desk, "back 9999"), 9999)
            self.assertEqual(self.raises(NoRun, desk, "value 2 p"), 2)

    def test_run_that_raises(self):
        desk = self.desk("unit a / open f p / show 1 / raise p / end")
        desk.say("start a f OFF")
        desk.say("step 0")
        self.assertEqual([desk.say("step 0"), desk.say("back 0"), desk.say("step 0")], ["raised OFF a:4; 1", "a:4", "raised OFF a:4; 1"])

    def test_run_that_ends_at_once(self):
        desk = self.desk("unit a / open f p / end")
        self.assertEqual(desk.say("start a f OFF"), "0")
        self.assertIsNone(self.raises(Ended, desk, "step 0"))
        self.assertIsNone(self.raises(Ended, desk, "back 0"))
        self.assertIsNone(self.raises(Ended, desk, "value 0 p"))

    def test_start_raises(self):
        desk = self.desk(LONG, G)
        self.assertEqual(self.raises(NoRoot, desk, "start b g 1"), ("b", "g"))
        self.assertEqual(self.raises(BadValues, desk, "start a f"), ())
        self.assertEqual(self.raises(BadValues, desk, "start a f 1 NONE"), (1, "NONE"))
        self.assertEqual(desk.say("start a f BAD"), "0")

    def test_values(self):
        desk = self.desk("unit a / open f p q / let x ON / let y p * 2 / show y / end")
        desk.say("start a f 7 OFF")
        desk.say("step 0")
        self.assertEqual([desk.say(f"value 0 {name}") for name in "pqxy"], ["7", "gone", "ON", "14"])
        for name in ("z", "x0", "P", "1", "ON", "p:", "/"):
            self.assertEqual(self.raises(NoName, desk, f"value 0 {name}"), name)
        desk.say("step 0")
        self.assertIsNone(self.raises(Ended, desk, "value 0 p"))
        self.assertIsNone(self.raises(Ended, desk, "value 0 z"))

    def test_behind(self):
        desk = self.desk(LONG, G)
        self.assertEqual(desk.say("behind"), "-")
        for number in range(3):
            desk.say(f"start a f {number}")
        self.assertEqual(desk.say("behind"), "-")
        desk.say("step 1")
        desk.say("put " + LONG.replace("show 3", "show 4"))
        self.assertEqual(desk.say("behind"), "0 1 2")
        desk.say("undo")
        self.assertEqual(desk.say("behind"), "-")
        for _ in range(4):
            desk.say("step 2")
        desk.say("put " + G.replace("let y q", "let y 3"))
        self.assertEqual([desk.say("behind"), desk.say("value 2 q")], ["2", "2"])
        self.assertEqual([desk.say("step 2"), desk.say("put " + shifted(LONG)), desk.say("step 0")], ["b:5 a:5", "a", "a:5"])
        self.assertEqual(desk.say("behind"), "2")

    def test_runs_go_along(self):
        desk = self.desk(LONG, G)
        desk.say("start a f 7")
        self.assertEqual([desk.say("step 0"), desk.say("put " + shifted(LONG, 2)), desk.say("step 0"), desk.say("back 0"), desk.say("back 0")],
                         ["a:4", "a", "a:7", "a:6", "a:4"])
        self.assertEqual([desk.say("behind"), desk.say("undo"), desk.say("behind")], ["0", "a", "-"])


class TestLines(DeskTest):
    def setUp(self):
        self.kept = self.desk(A, B, C, roots=(("a", "f"), ("c", "h")))
        self.kept.say("put " + B.replace("show q", "show 1"))
        self.kept.say("start a f 3")

    def bad(self, value):
        self.assertIs(self.raises(BadLine, self.kept, value), value)

    def test_any_value(self):
        for value in KINDS:
            self.bad(value)

    def test_right_ones(self):
        for row in LINES:
            desk = self.desk(A, B, C)
            desk.say("put " + C.replace("show x", "show 1"))
            desk.say("start a f 3")
            if row == "redo":
                desk.say("undo")
            if row == "back 0":
                desk.say("step 0")
            self.assertIsInstance(desk.say(row.format(**FULL)), str)

    def test_words_and_blanks(self):
        for row in LINES:
            line = row.format(**FULL)
            words = line.split(" ")
            for wrong in (" " + line, line + " ", line + "\n", "\n" + line, words[0].upper() + line[len(words[0]):], "x" + line,
                          line.replace(words[0], words[0] + "s", 1)):
                self.bad(wrong)
            if len(words) > 1:
                self.bad(words[0])
                self.bad(words[0] + " ")
            for at in range(1, len(words)):
                self.bad(" ".join(words[:at]) + "  " + " ".join(words[at:]))
                self.bad(" ".join(words[:at]) + "\n" + " ".join(words[at:]))

    def test_words_more_and_fewer(self):
        for row in ("drop c c", "undo 1", "redo 1", "undo undo", "run a", "run", "made a a", "made", "origin a", "origin a 1 1", "origin 1",
                    "why a b", "why", "alike", "alike a", "times a b", "times", "start", "start a", "step", "step 0 0", "back 0 0", "back",
                    "value 0", "value 0 p p", "value p", "behind 0", "behind behind", "put", "drop", "is", "way", "", " ", "/", "x", "look a"):
            self.bad(row)

    def test_values(self):
        for word in ("run", "start"):
            for value in ("on", "ABCDEFG", "A1", "01", "-0", "00", "1234567890", "-1234567890", "+1", "1.0", "-", "p", "ON,", "/", "\u0661", "-A"):
                self.bad(f"{word} a f {value}")
                self.bad(f"{word} a f 1 {value}")
                self.bad(f"{word} a f {value} 1")
            for value in ("ABCDEF", "-999999999", "999999999", "0", "Z"):
                for error in (lambda: self.kept.say(f"{word} a f {value} {value}"),):
                    self.assertRaises(BadValues, error)

    def test_numbers(self):
        for row in ("origin a {}", "step {}", "back {}", "value {} p"):
            for number in ("00", "01", "007", "12345", "10000", "-1", "+1", "1.", "a", "ON", "\u0661", "1x", "/"):
                self.bad(row.format(number))
            for number in ("9999", "1000", "999"):
                with self.assertRaises((NoRun, BadLine)) as caught:
                    self.kept.say(row.format(number))
                self.assertEqual(isinstance(caught.exception, BadLine), row.startswith("origin"))

    def test_any_words_as_names(self):
        desk = self.kept
        for word in ("A", "0", ":", "a.b", "a\t", "\u00e4", "NONE", "%", "a" * 5000, "/", "put"):
            self.assertEqual(self.raises(NoUnit, desk, f"made {word}"), word)
            self.assertEqual(self.raises(NoUnit, desk, f"times {word}"), word)
            self.assertEqual(self.raises(BadDrops, desk, f"drop {word}"), (word,))
            self.assertEqual(self.raises(NoRoot, desk, f"run {word} {word}"), (word, word))
            self.assertEqual(self.raises(NoName, desk, f"value 0 {word}"), word)
            self.assertEqual(self.raises(BadText, desk, f"is {word}"), 0)
            self.assertEqual(self.raises(BadUnit, desk, f"put {word}"), 1)

    def test_line_that_is_not_there(self):
        for line in ("origin a 0", "origin b 6", "origin a 9999"):
            with self.assertRaises(BadLine) as caught:
                self.kept.say(line)
            self.assertEqual(caught.exception.value, line)
        self.assertEqual(self.raises(NoUnit, self.kept, "origin z 0"), "z")


class TestCompare(DeskTest):
    """Rows of made-up lines beside a house to which the same is done."""

    def test_made_up_lines(self):
        for seed in range(30):
            luck = random.Random(seed)
            maker = ProgramMaker(seed, lines=(3, 25), small=0.5)
            house = House(maker.program, budget=luck.choice((0, 1, 99)))
            desk = Desk(stored(house))
            runs = 0
            for _ in range(25):
                kind = luck.random()
                root = luck.choice(house.program.roots)
                many = dict(house.program.unit(root[0]).opens)[root[1]]
                values = tuple([luck.choice(("NONE", "BAD", 3, -1, 0)) for _ in range(many)])
                written = " ".join(map(str, (*root, *values)))
                if kind < 0.3:
                    name = luck.choice(house.program.names)
                    text = edited_text(house.program.unit(name).text, luck)
                    self.same(desk, "put " + text.replace("\n", " / "), lambda: self.anew(house.edit((text,))))
                elif kind < 0.4:
                    self.same(desk, "undo", lambda: self.anew(house.undo()))
                elif kind < 0.5:
                    self.same(desk, "redo", lambda: self.anew(house.redo()))
                elif kind < 0.6:
                    self.same(desk, "start " + written, lambda: str(house.start(root, values)))
                    runs += 1
                elif kind < 0.75 and runs:
                    number = luck.randrange(runs)
                    self.same(desk, f"step {number}", lambda: self.step(house.stepper(number)))
                elif kind < 0.85:
                    found = run_made(house.program, root, values, 500, budget=house.budget)
                    self.assertEqual(desk.say("run " + written), self.outcome(found))
                else:
                    name = luck.choice(house.program.names)
                    text = edited_text(house.program.unit(name).text, luck)
                    self.same(desk, f"alike {name} " + text.replace("\n", " / "), lambda: "yes" if alike(
                        house.program.unit(name), unit(text, house.program.words)) else "no")
                self.assertEqual(more_told(desk.house), more_told(house))
                self.assertEqual(stand(desk.house), stand(house))
                self.assertEqual(desk.say("behind"), " ".join([str(number) for number, _ in house.behind()]) or "-")

    def same(self, desk, line, look):
        """Look at an answer, or at an error of the same class that keeps the same."""
        try:
            expected = look()
        except HungError as error:
            with self.assertRaises(type(error)) as caught:
                desk.say(line)
            self.assertEqual(vars(caught.exception), vars(error))
        else:
            self.assertEqual(desk.say(line), expected)

    def anew(self, change):
        return " ".join([name for name, _ in change.anew]) or "-"

    def step(self, stepper):
        stepper.step()
        if stepper.outcome is None:
            return " ".join([f"{unit}:{line}" for unit, line in stepper.places])
        return self.outcome(stepper.outcome)

    def outcome(self, found):
        if found == ("tired",):
            return "tired"
        places = "".join([f" {unit}:{line}" for unit, line in found[2]]) if found[0] == "raised" else ""
        shown = ";" + "".join([f" {value}" for value in found[-1]]) if found[-1] else ""
        return f"{found[0]} {found[1]}{places}{shown}"


if __name__ == "__main__":
    unittest.main()

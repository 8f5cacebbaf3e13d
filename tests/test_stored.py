"""Houses as texts."""

import random
import unittest

from hungfacts.errors import BadStored, BadText, HungError, NothingToRedo, NothingToUndo, NoRun
from hungfacts.house import House
from hungfacts.stored import read_house, stored
from tests.edits import edited
from tests.helper import program
from tests.kinds import KINDS
from tests.makers import ProgramMaker
from tests.test_house import A, B, C, HouseTest, some, texts, told
from tests.test_solving import FOUR, MAIN

SMALL = "unit b / open g q / show q / give q / end"
CALLER = "unit a / open f p / call x b.g p / show x / end"
STORED = """words ON OFF
budget 1
root a f
source a 5
unit a
open f p
call x b.g p
show x
end
made a 7
unit a
open f p
let x0 p
show x0
let x x0
show x
end
asked a 14
called a f = yes
reached a 3 = yes
put a 3 = yes
body b g = 2 q show give
needed b g 0 = yes
only a f 0 = -
reached b 3 = yes
words b g 0 = show q
only b g 0 = -
reached b 4 = yes
words b g 1 = give q
needed a f x = yes
reached a 4 = yes
only a f x = -
source b 5
unit b
open g q
show q
give q
end
made b 5
unit b
open g q
show q
give q
end
asked b 5
called b g = yes
reached b 3 = yes
only b g 0 = -
reached b 4 = yes
wanted b g = yes"""


class StoredTest(HouseTest):
    def bad_text(self, text, line):
        with self.assertRaises(BadText) as caught:
            read_house(text)
        self.assertEqual(caught.exception.line, line)

    def bad_stored(self, text, *value):
        with self.assertRaises(BadStored) as caught:
            read_house(text)
        self.assertEqual(caught.exception.value, value)


class TestStored(StoredTest):
    def look_back(self, house):
        """Read what is stored of a house, and look at what was read."""
        text = stored(house)
        found = read_house(text)
        self.assertTrue(found == house)
        self.assertEqual([told(found), found.edits, found.behind(), stored(found)], [told(house), 0, (), text])
        self.assertRaises(NothingToUndo, found.undo)
        self.assertRaises(NothingToRedo, found.redo)
        self.assertRaises(NoRun, found.stepper, 0)
        self.assertEqual([found.times(name) for name in found.program.names], [1] * len(found.program.names))
        return text

    def test_a_text(self):
        # By the facts g is called, though its body stands in a.
        house = House(some(CALLER, SMALL), budget=1)
        self.assertEqual(self.look_back(house), STORED)

    def test_budgets_and_roots(self):
        for budget in (0, 1, 2, 99):
            for roots in ((("a", "f"),), (("a", "f"), ("b", "g"))):
                text = self.look_back(House(some(CALLER, SMALL, C, roots=roots), budget=budget))
                rows = text.split("\n")
                self.assertEqual(rows[1], f"budget {budget}")
                self.assertEqual(rows[2:2 + len(roots)], [f"root {unit} {name}" for unit, name in roots])
                self.assertEqual([row for row in rows if row.startswith("source")], ["source a 5", "source b 5", "source c 6"])

    def test_four_units(self):
        rows = self.look_back(House(program(FOUR, MAIN))).split("\n")
        self.assertEqual(rows[:4], ["words ON", "budget 0", "root m main", "source b 4"])
        self.assertEqual(rows[8:], """made b 4
unit b
open g
call x c.h
end
asked b 3
called b g = yes
reached b 3 = yes
put b 3 = no
source c 5
unit c
open h
call x k.k NONE
call y b.g
end
made c 5
unit c
open h
call x k.k NONE
call y b.g
end
asked c 6
called c h = yes
reached c 3 = yes
put c 3 = no
needed k k 0 = yes
reached c 4 = yes
put c 4 = no
source k 7
unit k
open k p
if p is NONE
raise BAD
end
give ON
end
made k 7
unit k
open k p
if p is NONE
raise BAD
end
give NONE
end
asked k 7
called k k = yes
reached k 3 = yes
ways k 3 = both
only k k 0 = -
reached k 4 = yes
reached k 6 = yes
wanted k k = no
source m 5
unit m
open main
call x k.k ON
call y b.g
end
made m 5
unit m
open main
call x k.k ON
call y b.g
end
asked m 6
called m main = yes
reached m 3 = yes
put m 3 = no
needed k k 0 = yes
reached m 4 = yes
put m 4 = no""".split("\n"))

    def test_behind_edits_with_runs_and_in_trials(self):
        house = House(some(A, B))
        fresh = self.look_back(house)
        house.start(("a", "f"), (1,))
        house.edit(texts(C))
        self.assertEqual(self.look_back(house), stored(House(some(A, B, C))))
        house.undo()
        self.assertEqual(self.look_back(house), fresh)
        with house.trial():
            house.redo()
            self.assertEqual(self.look_back(house), stored(House(some(A, B, C))))
            house.stepper(0).step()
        self.assertEqual([self.look_back(house), self.look_back(house.copy())], [fresh, fresh])
        self.assertEqual(house.edits, 0)

    def test_made_up_houses(self):
        for seed in range(40):
            luck = random.Random(seed)
            house = House(ProgramMaker(seed, small=0.5).program, budget=luck.choice((0, 1, 3, 99)))
            self.look_back(house)
            newer = edited(house.program, luck)
            house.edit(tuple([unit.text for unit in newer.units]), roots=newer.roots,
                       drops=tuple([name for name in house.program.names if name not in newer.names]))
            self.look_back(house)

    def test_what_was_read_is_a_house(self):
        house = read_house(stored(House(some(A, B), budget=3)))
        house.edit(texts(C))
        self.look(house, some(A, B, C))
        self.assertEqual([house.start(("a", "f"), (1,)), house.budget], [0, 3])

    def test_names_of_arguments(self):
        house = House(some(A, B))
        self.assertEqual(read_house(text=stored(house=house)), house)


class TestBadTexts(StoredTest):
    def setUp(self):
        self.rows = stored(House(some(CALLER, SMALL, C, roots=(("a", "f"), ("c", "h"))), budget=1)).split("\n")
        self.heads = [at for at, row in enumerate(self.rows) if row.split(" ")[0] in ("words", "budget", "root", "source", "made", "asked")
                      and not row.startswith("words b")]
        self.assertEqual([self.rows[at].split(" ")[0] for at in self.heads],
                         ["words", "budget", "root", "root"] + ["source", "made", "asked"] * 3)

    def text(self, rows):
        return "\n".join(rows)

    def otherwise(self, at, row):
        return self.text(self.rows[:at] + [row] + self.rows[at + 1:])

    def test_no_string(self):
        for value in KINDS:
            self.bad_text(value, 0 if not isinstance(value, str) else 1)
        self.bad_text("", 1)

    def test_right(self):
        self.assertEqual(stored(read_house(self.text(self.rows))), self.text(self.rows))

    def test_heads_left_out(self):
        for at in self.heads:
            text = self.text(self.rows[:at] + self.rows[at + 1:])
            if self.rows[at].startswith("root"):
                # Without it there is another program, by which c asks and makes otherwise, or none.
                self.assertRaises(BadStored, read_house, text)
            else:
                self.bad_text(text, at + 1)

    def test_heads_twice(self):
        for at in self.heads:
            text = self.text(self.rows[:at + 1] + self.rows[at:])
            if self.rows[at].startswith("root"):
                self.bad_stored(text, "program")
            elif self.rows[at].split(" ")[0] in ("words", "budget"):
                self.bad_text(text, at + 2)
            else:
                # The second one counts as the first row of the block, so a row is left at its end.
                self.bad_text(text, at + 2 + int(self.rows[at].split(" ")[2]))

    def test_heads_exchanged(self):
        for one in range(len(self.heads)):
            for other in range(one + 1, len(self.heads)):
                rows = list(self.rows)
                one_at, other_at = self.heads[one], self.heads[other]
                rows[one_at], rows[other_at] = rows[other_at], rows[one_at]
                if self.rows[one_at].startswith("root") and self.rows[other_at].startswith("root"):
                    self.bad_stored(self.text(rows), "program")
                else:
                    first = rows[one_at].split(" ")[0]
                    missing = self.rows[one_at].split(" ")[0] == "root" and first == "source"
                    self.assertRaises(BadText, read_house, self.text(rows))
                    if not missing and not (self.rows[one_at].split(" ")[0] == "source" and first == "source"):
                        self.bad_text(self.text(rows), one_at + 1)

    def test_cut_off(self):
        for many in range(len(self.rows)):
            rows = self.rows[:many]
            if not rows:
                continue
            if many in self.heads and many and self.rows[many].startswith("source") and many > self.heads[4]:
                # Whole units are there, but not all that are called.
                self.assertRaises((BadStored, HungError), read_house, self.text(rows))
                if self.rows[many].startswith("source b"):
                    self.bad_stored(self.text(rows), "program")
            else:
                self.bad_text(self.text(rows), many + 1)

    def test_further_rows(self):
        for row in ("", "end", "words ON", "budget 0", "root a f", "made c 1", "asked c 1", "source c 1", "source a 1", "source b0", "nothing"):
            self.bad_text(self.text(self.rows + [row]), len(self.rows) + 1)
            self.bad_text(self.text([row] + self.rows), 2 if row == "words ON" else 1)
        self.bad_text(self.text(self.rows + ["source d 1"]), len(self.rows) + 2)
        self.bad_text(self.text(self.rows + ["source d 1", "unit d"]), len(self.rows) + 3)

    def test_forms_of_heads(self):
        for at in self.heads:
            row = self.rows[at]
            words = row.split(" ")
            wrong = [row + " ", " " + row, row.replace(" ", "  ", 1), row + " x y", words[0], words[0] + " ", row.upper() + " 1", row + "\t", "", " ",
                     "x" + row]
            if words[0] == "words":
                wrong += ["words on", "words ABCDEFG", "words ON1", "words ON  OFF", "words ON,OFF", "word ON", "words", "words "]
            elif words[0] == "budget":
                wrong += [f"budget {many}" for many in ("", "-1", "01", "00", "1.0", "1000000000", "+1", "a", "1 1", "\u0661")]
            elif words[0] == "root":
                wrong += ["root a", "root a f g", "root A f", "root a F", "root abcdefg f", "root 0 f", "root a 1f", "root a.f", "root a f "]
            else:
                name, many = words[1:]
                wrong += [f"{words[0]} {each} {many}" for each in ("", "A", "abcdefg", "0", "z-", "A0")]
                wrong += [f"{words[0]} {name} {each}" for each in ("", "-1", "01", f"0{many}", "1000000000", "x", f"{many} ", f"{many} 1")]
                wrong += [f"{words[0]} {name}", f"{words[0]}{name} {many}"]
            for each in wrong:
                self.bad_text(self.otherwise(at, each), at + 1)

    def test_other_names(self):
        for at in self.heads:
            words = self.rows[at].split(" ")
            if words[0] in ("made", "asked"):
                for name in ("a", "b", "c", "d", "z"):
                    if name != words[1]:
                        self.bad_text(self.otherwise(at, f"{words[0]} {name} {words[2]}"), at + 1)
            elif words[0] == "source" and words[1] != "a":
                for name in ("a", "aa" if words[1] == "c" else "a"):
                    self.bad_text(self.otherwise(at, f"source {name} {words[2]}"), at + 1)

    def test_other_numbers(self):
        for at in self.heads[4:]:
            word, name, many = self.rows[at].split(" ")
            rows = int(many)
            for other in range(rows):
                self.bad_text(self.otherwise(at, f"{word} {name} {other}"), at + 2 + other)
            last = at == self.heads[-1]
            for other in (rows + 1, rows + 2, 10000, 999999999):
                text = self.otherwise(at, f"{word} {name} {other}")
                self.assertRaises(BadText, read_house, text)
                if last or other > len(self.rows):
                    self.bad_text(text, len(self.rows) + 1)

    def test_units_ascend(self):
        blocks = [self.rows[at:behind] for at, behind in zip(self.heads[4::3], self.heads[7::3] + [len(self.rows)])]
        head = self.rows[:self.heads[4]]
        self.assertEqual(self.text(sum(blocks, head)), self.text(self.rows))
        a, b, c = blocks
        self.bad_text(self.text(head + b + a + c), len(head) + len(b) + 1)
        self.bad_text(self.text(head + a + c + b), len(head) + len(a) + len(c) + 1)
        self.bad_text(self.text(head + a + a + b + c), len(head) + len(a) + 1)
        self.bad_stored(self.text(head + b + c), "program")
        self.bad_stored(self.text(head + a + c), "program")
        self.bad_text(self.text(head), len(head) + 1)

    def test_first_wrong_line(self):
        rows = list(self.rows)
        for at in self.heads[::-1]:
            rows[at] = "nothing"
            self.bad_text(self.text(rows), at + 1)


class TestBadStored(StoredTest):
    def text(self, words="ON OFF", budget="0", roots=("root a f",), sources=(CALLER, SMALL), names=None):
        rows = [f"words {words}", f"budget {budget}", *roots]
        for at, source in enumerate(texts(*sources)):
            name = names[at] if names else source.split("\n")[0].split(" ")[1]
            rows += [f"source {name} {source.count(chr(10)) + 1}", *source.split("\n"), f"made {name} 0", f"asked {name} 0"]
        return "\n".join(rows)

    def test_program(self):
        for named in ({"words": "NONE"}, {"words": "ON BAD"}, {"words": "ON ON"}, {"words": "A B C D"}, {"budget": "100"},
                      {"budget": "999999999"}, {"roots": ()}, {"roots": ("root a g",)}, {"roots": ("root b f",)}, {"roots": ("root c f",)},
                      {"roots": ("root a f", "root a f")}, {"roots": ("root b g", "root a f")}, {"sources": (CALLER,)},
                      {"sources": (CALLER, SMALL.replace("show q", "show z"))}, {"sources": (CALLER, SMALL.replace("g q", "g"))},
                      {"sources": (CALLER, "nothing"), "names": ("a", "b")}, {"sources": (CALLER, ""), "names": ("a", "b")},
                      {"sources": (CALLER, SMALL), "names": ("a", "c")}, {"names": ("a0", "b")}, {"sources": (CALLER, SMALL, A), "names": "abc"},
                      {"sources": (SMALL, CALLER), "names": "ab"}, {"words": "ON", "sources": (CALLER, SMALL.replace("show q", "show OFF"))}):
            self.bad_stored(self.text(**named), "program")

    def test_source_without_rows(self):
        self.bad_stored("words ON\nbudget 0\nroot a f\nsource a 0\nmade a 0\nasked a 0", "program")

    def test_made_then_asked_unit_by_unit(self):
        self.bad_stored(self.text(), "made", "a")
        rows = stored(House(some(CALLER, SMALL, C, roots=(("a", "f"), ("c", "h"))), budget=1)).split("\n")
        wrong, expected = list(rows), []
        for at in range(len(rows) - 1, -1, -1):
            words = rows[at].split(" ")
            if words[0] in ("made", "asked") and len(words) == 3:
                wrong[at + 1] += " "
                expected.append((words[0], words[1]))
                self.bad_stored("\n".join(wrong), words[0], words[1])
        self.assertEqual(expected, [(word, name) for name in "cba" for word in ("asked", "made")])

    def test_each_row_otherwise(self):
        rows = stored(House(some(CALLER, SMALL, C, roots=(("a", "f"), ("c", "h"))), budget=1)).split("\n")
        block = None
        left = 0
        for at, row in enumerate(rows):
            words = row.split(" ")
            if left:
                left -= 1
                for other in (row + " ", "", " ", row.replace(" ", "  ", 1) + " ", "x" + row, row + " x", row.replace("yes", "no") + " "):
                    text = "\n".join(rows[:at] + [other] + rows[at + 1:])
                    if block[0] == "source":
                        self.bad_stored(text, "program")
                    else:
                        self.bad_stored(text, *block)
            elif words[0] in ("source", "made", "asked"):
                block, left = (words[0], words[1]), int(words[2])

    def test_rows_of_blocks(self):
        """Rows more, fewer, twice and exchanged, with the right numbers."""
        rows = stored(House(some(CALLER, SMALL, C, roots=(("a", "f"), ("c", "h"))), budget=1)).split("\n")
        at = 0
        while at < len(rows):
            words = rows[at].split(" ")
            if words[0] not in ("made", "asked"):
                at += 1 + (int(words[2]) if words[0] == "source" else 0)
                continue
            many = int(words[2])
            inner = rows[at + 1:at + 1 + many]
            others = [inner[:-1], inner + inner[-1:], inner[1:], [], inner + [""], inner[::-1] if many > 1 else ["x"]]
            for other in others:
                text = "\n".join(rows[:at] + [f"{words[0]} {words[1]} {len(other)}"] + other + rows[at + 1 + many:])
                self.bad_stored(text, words[0], words[1])
            at += 1 + many

    def test_of_another_program(self):
        """The made units and answers are those of another budget, of other roots, or of another unit beside them."""
        one = stored(House(some(CALLER, SMALL), budget=1))
        self.bad_stored(one.replace("budget 1", "budget 0"), "made", "a")
        # With any root more the same facts hold here.
        self.assertEqual(read_house(one.replace("root a f", "root a f\nroot b g")).program.roots, (("a", "f"), ("b", "g")))
        with_c = stored(House(some(CALLER, SMALL, C), budget=1))
        self.bad_stored(with_c.replace("root a f", "root a f\nroot c h"), "made", "c")
        four = stored(House(program(FOUR, MAIN)))
        self.bad_stored(four.replace("source m 5\nunit m\nopen main\ncall x k.k ON\ncall y b.g\nend",
                                     "source m 4\nunit m\nopen main\ncall x k.k ON\nend"), "made", "b")

    def test_text_goes_ahead(self):
        for named in ({"words": "ON ON"}, {"budget": "100"}, {"roots": ()}):
            text = self.text(**named)
            self.bad_text(text + "\n", text.count("\n") + 2)


if __name__ == "__main__":
    unittest.main()

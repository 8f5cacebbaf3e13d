"""What stands against going on with a run by another program, and moving it there, by hand."""

import unittest

from hungfacts.errors import Barred, Ended, OtherWords
from hungfacts.stepping import Stepper
from tests.helper import program
from tests.test_stepping import CALLER, LOOP, ROOT, ROOTS, SMALL, WORDS, StepTest, place, places, properties


def some(*texts, roots=ROOTS, words=WORDS):
    return program(texts, roots, words)


class MoveTest(StepTest):
    def at(self, elder, line, values=(), budget=0):
        """A Stepper of a program that stands at a line, given as `a:3`."""
        stepper = Stepper(elder, ROOT, values, budget=budget)
        if stepper.places[0] != place(line):
            self.assertTrue(stepper.until(*place(line)))
        return stepper

    def barred(self, stepper, newer, *expected):
        """Look at what stands against a program, and that asking and trying to move change nothing."""
        told = properties(stepper)
        self.assertEqual(stepper.against(newer), expected)
        with self.assertRaises(Barred) as caught:
            stepper.move(newer)
        self.assertEqual(caught.exception.bars, expected)
        self.assertEqual(properties(stepper), told)

    def moved(self, stepper, newer, expected):
        """Move, come to these places, and look at what is as it was; back() and moving again lead there, too."""
        told = properties(stepper)
        self.assertEqual(stepper.against(newer), ())
        self.assertEqual(properties(stepper), told)
        for _ in range(2):
            self.assertIsNone(stepper.move(newer))
            self.assertIs(stepper.program, newer)
            self.assertEqual([stepper.places, stepper.shown, stepper.done], [places(expected), told[2], told[4]])
            there = properties(stepper)
            stepper.back()
            self.assertEqual(properties(stepper), told)
        stepper.move(newer)
        self.assertEqual(properties(stepper), there)


class TestLines(MoveTest):
    A = "unit a / open f p / call x l p / show x / end / local l n / if n < 1 / give 0 / end / let m n - 1 / call x l m / show n / give x / end"

    def test_section_13(self):
        a, g = "unit a / open f / call x b.g / show x / end", "open g / let n 2 / show n / give n / end"
        stepper = self.at(some(a, "unit b / " + g), "b:4")
        self.barred(stepper, some(a, "unit b / " + g.replace("2", "3")), ("lines", "b", 4))
        self.moved(stepper, some(a, "unit b / cell c ON / " + g), "b:5 a:3")

    def test_in_order_and_alone(self):
        stepper = self.at(some(self.A), "a:7", (2,))
        self.assertEqual(stepper.places, places("a:7 a:3"))
        stepper.until("a", 7)
        stepper.until("a", 7)
        self.assertEqual(stepper.places, places("a:7 a:11 a:11 a:3"))
        other = self.A.replace("show n", "show 1")
        three = (("lines", "a", 7), ("lines", "a", 11), ("lines", "a", 11))
        self.barred(stepper, some(other), *three)
        # That the root is none, facts are missing or something is gone is told only where all lines are there.
        self.barred(stepper, some(other + " / open g / end", roots=(("a", "g"),)), *three)
        self.barred(stepper, some(self.A.replace("show x / end / local", "end / local")), ("lines", "a", 3))
        self.barred(stepper, some("unit b / open g / end", roots=(("b", "g"),)), *three, ("lines", "a", 3))

    def test_what_makes_another_function(self):
        head = "unit a / open f p / show p / end"
        for text in ("unit a / open f q / show q / end", "unit a / open f p / show p / show 1 / end", "unit a / open f p / end",
                     "unit a / open f p q / show p / end", "unit a / open h p / show p / end"):
            stepper = self.at(some(head), "a:3", (1,))
            root = (("a", "h"),) if "open h" in text else ROOTS
            self.barred(stepper, some(text, roots=root), ("lines", "a", 3))
        caller = "unit a / open f p / call x l / end / local l / show 1 / end"
        stepper = self.at(some(caller), "a:6", (1,))
        self.barred(stepper, some(caller.replace("show 1", "show 2")), ("lines", "a", 6))
        self.barred(stepper, some(caller.replace("end / local", "show 2 / end / local")), ("lines", "a", 3))

    def test_unit_that_is_gone(self):
        stepper = self.at(some(CALLER, SMALL), "b:4", (4,))
        self.barred(stepper, some("unit a / open f p / end"), ("lines", "b", 4), ("lines", "a", 3))

    def test_functions_that_stand_elsewhere(self):
        rows = "open f p / show p / show 1 / end"
        stepper = self.at(some("unit a / " + rows), "a:4", (3,))
        self.moved(stepper, some("unit a / cell c ON / local l / show 2 / end / " + rows), "a:8")
        self.moved(stepper, some("unit a / " + rows + " / open g / end"), "a:4")
        self.assertEqual([stepper.step(), stepper.outcome], [None, ("gave", "NONE", (3, 1))])


class TestBars(MoveTest):
    def test_root(self):
        elder = some(CALLER, SMALL)
        newer = some(CALLER, SMALL, "unit c / open f p / call x a.f p / show x / end", roots=(("c", "f"),))
        stepper = self.at(elder, "b:4", (4,))
        self.barred(stepper, newer, ("root", "a", "f"))
        self.moved(stepper, some(CALLER, SMALL, roots=(("a", "f"), ("b", "g"))), "b:4 a:3")
        # Just the outermost function must be a root.
        self.barred(stepper, some(CALLER, SMALL, roots=(("b", "g"),)), ("root", "a", "f"), ("fact", ("at", "a", 3)),
                    ("fact", ("holds", "a", "f", "0", "num")))

    def test_line_that_is_not_reached(self):
        a = "unit a / open f / call x b.h / if x is ON / show 1 / show 2 / end / show x / end"
        b = "unit b / open h / give ON / end"
        stepper = self.at(some(a, b), "a:6")
        self.barred(stepper, some(a, b.replace("ON", "OFF")), ("fact", ("at", "a", 6)), ("fact", ("holds", "a", "f", "x", "ON")))
        self.moved(stepper, some(a, b.replace("give ON", "if 0 < 1 / give OFF / end / give ON")), "a:6")

    def test_value_that_is_told(self):
        a, b = "unit a / open f p / call x b.h p / show 1 / show x / end", "unit b / open h p / give p / end"
        stepper = self.at(some(a, b), "a:4", (7,))
        self.barred(stepper, some(a, b.replace("give p", "give ON")), ("fact", ("holds", "a", "f", "x", "num")))
        self.moved(stepper, some(a, b.replace("give p", "give 3")), "a:4")
        # The value stays what it was.
        self.assertEqual([stepper.told("x"), stepper.step(), stepper.step(), stepper.shown], [("is", 7), places("a:5"), None, (1, 7)])
        stepper = self.at(some(a, b), "a:4", ("BAD",))
        self.barred(stepper, some(a, b.replace("give p", "give 3")), ("fact", ("holds", "a", "f", "x", "BAD")))

    def test_value_that_is_gone(self):
        a, b = "unit a / open f p / call x b.h p / show 1 / end", "unit b / open h p / give p / end"
        stepper = self.at(some(a, b), "a:4", (7,))
        self.assertEqual(stepper.told("x"), ("gone",))
        self.barred(stepper, some(a, b.replace("give p", "give ON")), *[("fact", ("holds", "a", "f", "x", worth))
                                                                       for worth in ("BAD", "NONE", "OFF", "num")])
        three = "if 0 < p / give ON / end / if p < 0 / give OFF / end / give 3"
        stepper = self.at(some(a, b.replace("give p", three)), "a:4", (7,))
        self.barred(stepper, some(a, b.replace("give p", "give OFF")), ("fact", ("holds", "a", "f", "x", "ON")),
                    ("fact", ("holds", "a", "f", "x", "num")))
        self.moved(stepper, some(a, b), "a:4")

    def test_parameters_stand_by_their_places(self):
        a = "unit a / open f p q / call x b.g q / end"
        b = "unit b / open g r / show r / show 1 / end"
        stepper = self.at(some(a, b), "b:4", (7, "ON"))
        other = "unit c / open f / call y a.f ON OFF / end"
        self.barred(stepper, some(a, b, other, roots=(("c", "f"),)), ("root", "a", "f"), ("fact", ("holds", "a", "f", "0", "BAD")),
                    ("fact", ("holds", "a", "f", "0", "NONE")), ("fact", ("holds", "a", "f", "0", "OFF")),
                    ("fact", ("holds", "a", "f", "0", "num")), ("fact", ("holds", "a", "f", "1", "ON")),
                    ("fact", ("holds", "b", "g", "0", "ON")))

    def test_cells(self):
        a = "unit a / open f p / call x b.k p / show p / call y b.r / end"
        b = "unit b / cell c ON / open k p / keep c p / end / open r / get x c / show x / end"
        stepper = self.at(some(a, b), "a:4", (7,))
        fewer = b.replace("keep c p", "keep c OFF")
        self.barred(stepper, some(a, fewer), ("fact", ("keeps", "b", "c", "num")))
        stepper = self.at(some(a, b), "a:4", ("OFF",))
        self.moved(stepper, some(a, fewer), "a:4")
        self.assertEqual(stepper.state()[2], (("b", "c", ("is", "OFF")),))
        # A cell that the newer program does not have bars nothing.
        stepper = self.at(some(a, b), "a:4", (7,))
        self.moved(stepper, some(a, "unit b / open k p / end / open r / end"), "a:4")
        self.assertEqual(stepper.state()[2], ())
        # Then one of its name begins anew.
        self.moved(stepper, some(a, b), "a:4")
        self.assertEqual(stepper.state()[2], (("b", "c", ("is", "ON")),))

    def test_cell_that_nobody_reads(self):
        a = "unit a / open f p / call x b.k p / show p / call y b.r / end"
        b = "unit b / cell c ON / open k p / keep c p / end / open r / show 2 / end"
        stepper = self.at(some(a, b), "a:4", (7,))
        self.assertEqual(stepper.state()[2], (("b", "c", ("gone",)),))
        self.barred(stepper, some(a, b.replace("keep c p", "keep c NONE")), *[("fact", ("keeps", "b", "c", worth))
                                                                             for worth in ("BAD", "OFF", "num")])
        # What a cell has may be asked for now.
        self.barred(stepper, some(a, b.replace("show 2", "get x c / show x")), ("gone", "b", "c"))
        # Of a cell that may have one word alone no question asks for this word.
        one = b.replace("keep c p", "keep c ON")
        stepper = self.at(some(a, one), "a:4", (7,))
        self.barred(stepper, some(a, one.replace("show 2", "get x c / show x")), ("gone", "b", "c"))

    def test_name_that_may_be_asked_for_now(self):
        a = "unit a / open f p q / call x b.g p q / show x / end"
        b = "unit b / open g r s / give r / end"
        both = b.replace("give r", "show s / give r")
        stepper = self.at(some(a, b), "a:3", (7, 8))
        self.assertEqual([stepper.told("p"), stepper.told("q")], [("is", 7), ("gone",)])
        self.barred(stepper, some(a, both), ("gone", "a", "f", "q"))
        stepper.until("b", 3)
        self.barred(stepper, some(a, both), ("lines", "b", 3))
        # At a:4 nobody asks for q any more, but the facts do not tell lines apart.
        stepper.until("a", 4)
        self.barred(stepper, some(a, both), ("gone", "a", "f", "q"))

    def test_name_that_may_be_asked_for_has_one_word(self):
        a = "unit a / open f p / call x b.g p / show p / call y c.h x / end"
        b, c = "unit b / open g p / give p / end", "unit c / open h p / end"
        stepper = self.at(some(a, b, c), "a:4", ("ON",))
        self.assertEqual(stepper.told("x"), ("gone",))
        shows = c.replace("end", "show p / end")
        self.barred(stepper, some(a, b, shows), ("gone", "a", "f", "x"))
        # Only what it may be, of these facts, is asked for; that it may have been another word is told as a fact.
        one = b.replace("give p", "give ON")
        stepper = self.at(some(a, b.replace("give p", "if p is ON / give 1 / end / give ON"), c), "a:4", ("OFF",))
        self.barred(stepper, some(a, one, shows), ("fact", ("holds", "a", "f", "x", "num")))

    def test_one_word_of_the_elder_program_is_known(self):
        a = "unit a / open f / call x b.g / show 1 / call y c.h x / end"
        b, c = "unit b / open g / give ON / end", "unit c / open h p / end"
        stepper = self.at(some(a, b, c), "a:4")
        newer = some(a, b.replace("give ON", "if 0 < 1 / give OFF / end / give ON"), c.replace("end", "show p / end"))
        self.moved(stepper, newer, "a:4")
        self.assertEqual(stepper.told("x"), ("is", "ON"))
        stepper.until("c", 3)
        self.assertEqual([stepper.step(), stepper.shown], [None, (1, "ON")])

    def test_each_once_and_ascending(self):
        a = "unit a / cell c ON / cell d OFF / open f p / call x l p p / end / local l n m / if n < 1 / give 0 / end / let o n - 1 / call x l o m / give x / end"
        more = " / open g / call x b.h ON / get y c / show y / get z d / show z / end"
        stepper = self.at(some(a), "a:8", (2,))
        stepper.until("a", 8)
        stepper.until("a", 8)
        self.assertEqual(stepper.places, places("a:8 a:12 a:12 a:5"))
        self.barred(stepper, some(a + more, "unit b / open h q / end", roots=(("a", "g"),)), ("root", "a", "f"),
                    ("fact", ("at", "a", 5)), ("fact", ("at", "a", 8)), ("fact", ("at", "a", 12)),
                    *[("fact", ("holds", "a", "f", "0", worth)) for worth in ("num",)],
                    ("fact", ("holds", "a", "l", "0", "num")),
                    *[("fact", ("holds", "a", "l", "1", worth)) for worth in ("BAD", "NONE", "OFF", "ON", "num")],
                    ("fact", ("holds", "a", "l", "o", "num")), ("gone", "a", "c"), ("gone", "a", "d"))

    def test_names_of_several_frames(self):
        a = "unit a / open f p q r / call x l r q / show p / end / local l u v / if u < 1 / call w b.g u v / give 1 / end / let t u - 1 / call y l t v / show 1 / end"
        b = "unit b / open g u v / end"
        stepper = self.at(some(a, b), "a:7", (5, 6, 2))
        stepper.until("a", 7)
        self.assertEqual([stepper.told("u"), stepper.told("v")], [("is", 1), ("gone",)])
        self.barred(stepper, some(a, b.replace("end", "show v / end")), ("gone", "a", "f", "q"), ("gone", "a", "l", "v"))


class TestErrors(MoveTest):
    def test_sequence(self):
        stepper = self.at(some(LOOP), "a:4", (1,))
        others = [some(LOOP, words=words) for words in (("ON",), ("OFF", "ON"), ("ON", "OFF", "A"), ("A",))]
        told = properties(stepper)
        for other in others:
            self.assertRaises(OtherWords, stepper.against, other)
            self.assertRaises(OtherWords, stepper.move, other)
        self.assertEqual(properties(stepper), told)
        while stepper.outcome is None:
            stepper.step()
        for other in others:
            self.assertRaises(OtherWords, stepper.against, other)
            self.assertRaises(OtherWords, stepper.move, other)
        self.assertRaises(Ended, stepper.against, some(LOOP))
        self.assertRaises(Ended, stepper.move, some(LOOP))
        self.assertRaises(Ended, stepper.move, some("unit b / open g / end", roots=(("b", "g"),)))
        stepper.back()
        self.assertEqual(stepper.against(program=some(LOOP)), ())
        stepper.move(program=some(LOOP))


class TestMoves(MoveTest):
    def test_goes_on_with_the_newer_program(self):
        a = "unit a / open f p / let n 0 / while n < p / call x b.g n / show x / set n n + 1 / end / end"
        b = "unit b / open g q / let y q * 2 / give y / end"
        stepper = self.at(some(a, b), "a:6", (3,))
        self.moved(stepper, some(a, "unit b / open k / show ON / end / open g q / call y k2.h q / give y / end",
                                 "unit k2 / cell c ON / open h q / keep c q / get z c / let y z * 10 / give y / end"), "a:6")
        while stepper.outcome is None:
            stepper.step()
        self.assertEqual(stepper.outcome, ("gave", "NONE", (0, 10, 20)))

    def test_to_the_same_program(self):
        stepper = self.at(some(LOOP), "a:5", (2,))
        self.moved(stepper, some(LOOP), "a:5")
        self.moved(stepper, stepper.program, "a:5")
        stepper.back()
        stepper.back()
        self.assertEqual([stepper.places, stepper.done], [places("a:5"), 2])
        stepper.back()
        self.assertEqual([stepper.places, stepper.done], [places("a:4"), 1])

    def test_back_over_moves_and_steps(self):
        rows = "open f p / show p / show p / show p / show p / end"
        programs = [some("unit a / " + "open g / end / " * 0 + rows)] + [
            some("unit a / " + " / ".join(f"cell c{k} ON" for k in range(many)) + " / " + rows) for many in (1, 2, 3)]
        stepper = Stepper(programs[0], ROOT, (1,))
        told = [properties(stepper)]
        for newer in programs[1:]:
            stepper.step()
            told.append(properties(stepper))
            stepper.move(newer)
            told.append(properties(stepper))
        self.assertEqual([stepper.places, stepper.shown, stepper.done], [places("a:9"), (1, 1, 1), 3])
        for expected in told[-2::-1]:
            stepper.back()
            self.assertEqual(properties(stepper), expected)
        self.assertRaises(Ended, stepper.back)

    def test_statement_that_the_newer_program_leaves_out(self):
        a = "unit a / open f p / let x p / show 1 / call y b.g x / show 2 / end"
        needs, free = "unit b / open g q / show q / end", "unit b / open g q / show 0 / end"
        stepper = self.at(some(a, needs), "a:3", (7,))
        self.moved(stepper, some(a, free), "a:4")
        self.look_on(stepper, "a:5; b:3 a:5; a:6; -", (1, 0, 2))

    def look_on(self, stepper, expected, shown):
        """Where the run goes from here on, and what it has shown at its end."""
        found = []
        while stepper.outcome is None:
            found.append(stepper.step())
        self.assertEqual(found, [places(text) for text in expected.split("; ")])
        self.assertEqual(stepper.shown, shown)

    def test_last_statement_that_is_left_out(self):
        a = "unit a / open f p / call x b.g p / show x / end"
        # What l gives is needed as long as the function k is called.
        b = "unit b / cell c ON / open g p / keep c p / end / open k / get x c / show x / end"
        both = (("a", "f"), ("b", "k"))
        stepper = self.at(some(a, b, roots=both), "b:4", (7,))
        self.moved(stepper, some(a, b), "a:4")
        self.assertEqual([stepper.step(), stepper.outcome], [None, ("gave", "NONE", ("NONE",))])
        stepper.back()
        stepper.back()
        self.assertEqual(stepper.places, places("b:4 a:3"))

    def test_end_behind_a_move(self):
        a = "unit a / cell c ON / open f p / show p / keep c p / end"
        more = " / open k / get x c / show x / end"
        stepper = self.at(some(a + more, roots=(("a", "f"), ("a", "k"))), "a:5", (7,))
        told = properties(stepper)
        stepper.move(some(a + more))
        self.assertEqual([stepper.places, stepper.outcome, stepper.done, stepper.shown], [None, ("gave", "NONE", (7,)), 1, (7,)])
        self.assertRaises(Ended, stepper.step)
        stepper.back()
        self.assertEqual(properties(stepper), told)

    def test_parts_that_are_left_out(self):
        a = ("unit a / cell c ON / open f p / if p is ON / show 1 / keep c p / else / show 3 / end / try / do / keep c 1 / end"
             " / catch e / show 4 / end / while p is OFF / keep c 2 / show 5 / end / end")
        more = " / open k / get x c / show x / end"
        both = (("a", "f"), ("a", "k"))
        for values, line, expected in ((("ON",), "a:6", "a:17"), (("OFF",), "a:10", "a:17"), (("OFF",), "a:11", "a:17"),
                                       (("OFF",), "a:12", "a:17"), (("OFF",), "a:18", "a:19")):
            stepper = self.at(some(a + more, roots=both), line, values)
            self.moved(stepper, some(a + more), expected)

    def test_line_in_a_while_leads_to_its_test(self):
        a = "unit a / cell c ON / open f p / let n 0 / while n < p / set n n + 1 / keep c n / end / show n / end"
        more = " / open k / get x c / show x / end"
        stepper = self.at(some(a + more, roots=(("a", "f"), ("a", "k"))), "a:7", (2,))
        self.moved(stepper, some(a + more), "a:5")
        self.look_on(stepper, "a:6; a:5; a:9; -", (2,))

    def test_one_way_becomes_both(self):
        a = "unit a / open f / call x b.h / if x is ON / show 1 / show 2 / else / show 3 / end / end"
        b = "unit b / open h / give ON / end"
        more = b.replace("give ON", "if 0 < 1 / give OFF / end / give ON")
        for line in ("a:3", "b:3", "a:4", "a:5", "a:6"):
            stepper = self.at(some(a, b), line)
            if line == "b:3":
                self.barred(stepper, some(a, more), ("lines", "b", 3))
                continue
            expected = {"a:3": "a:3", "a:4": "a:4"}.get(line, line)
            self.moved(stepper, some(a, more), expected)
            stepper.until("a", 6)

    # By a budget of 1 the call at a:6 is put in, but where e is a root, too, the one at a:3 comes ahead of it.
    A = "unit a / open e / call x b.g 1 / end / open f p / call x b.g p / show x / end"
    B = "unit b / open g q / let y q + 1 / show y / give y / end"
    BOTH = (("a", "e"), ("a", "f"))

    def look_back(self, stepper, elder, outcome):
        """Go to the end, and back to the elder program."""
        while stepper.outcome is None:
            stepper.step()
        self.assertEqual(stepper.outcome, outcome)
        while stepper.program is not elder:
            stepper.back()

    def test_put_in_now(self):
        elder, newer = some(self.A, self.B, roots=self.BOTH), some(self.A, self.B)
        for line, expected in (("a:6", "b:3 a:6"), ("b:3", "b:3 a:6"), ("b:4", "b:4 a:6"), ("b:5", "b:5 a:6"), ("a:7", "a:7")):
            stepper = self.at(elder, line, (3,), budget=1)
            self.assertEqual(stepper.places, places("a:6" if line == "a:6" else expected))
            self.moved(stepper, newer, expected)
            self.assertEqual(self.frames(stepper), "a f")
            self.look_back(stepper, elder, ("gave", "NONE", (4, 4)))

    def test_called_now(self):
        elder, newer = some(self.A, self.B), some(self.A, self.B, roots=self.BOTH)
        for line in ("b:3 a:6", "b:4 a:6", "b:5 a:6", "a:7"):
            stepper = self.at(elder, line.split(" ")[0], (3,), budget=1)
            self.assertEqual(self.frames(stepper), "a f")
            self.moved(stepper, newer, line)
            self.assertEqual(self.frames(stepper), "a f" if line == "a:7" else "b g, a f")
            self.look_back(stepper, elder, ("gave", "NONE", (4, 4)))

    def test_values_of_a_body_that_is_called_now(self):
        for elder, newer in ((self.BOTH, ROOTS), (ROOTS, self.BOTH)):
            stepper = self.at(some(self.A, self.B, roots=elder), "b:4", (3,), budget=1)
            self.moved(stepper, some(self.A, self.B, roots=newer), "b:4 a:6")
            self.assertEqual(stepper.state()[1], ((("q", ("is", 3)), ("y", ("is", 4))), (("p", ("is", 3)),)))

    def test_other_bodies_are_put_in(self):
        """Three functions are under way; the second one is put in, or the third one, or none."""
        b = "unit b / open g q / let u q + 1 / call y c.h u / give y / end"
        c = "unit c / open h r / let v r + 1 / show v / give v / end"
        alone, both = some(self.A, b, c), some(self.A, b, c, roots=self.BOTH)
        for budget in (0, 1, 2, 3, 99):
            for elder, newer in ((alone, both), (both, alone)):
                stepper = self.at(elder, "c:4", (3,), budget=budget)
                self.assertEqual(stepper.places, places("c:4 b:4 a:6"))
                self.moved(stepper, newer, "c:4 b:4 a:6")
                self.assertEqual(stepper.state()[1], ((("r", ("is", 4)), ("v", ("is", 5))), (("q", ("is", 3)), ("u", ("is", 4))),
                                                      (("p", ("is", 3)),)))
                self.look_back(stepper, elder, ("gave", "NONE", (5, 5)))

    def test_second_or_third_body(self):
        z, g = "unit z / open f p / call x a.g p / show x / end", "open g q / let u q + 1 / call y c.h u / give y / end"
        c = "unit c / open h r / let v r + 1 / show v / give v / end"
        root = ("z", "f")
        elder = some(z, "unit a / " + g, c, roots=(root,))
        newer = some(z, "unit a / open e / call x d.k / end / " + g, c, "unit d / open k / give 1 / end", roots=(("a", "e"), root))
        # By a budget of 2 the elder one puts in at a:4 and z:3, so h is called from the body of g in f; the newer one puts
        # in at a:3 and a:7, so the body of h stands in g, which f calls.
        stepper = Stepper(elder, root, (3,), budget=2)
        stepper.until("c", 4)
        self.assertEqual([self.frames(stepper), stepper.places], ["c h, z f", places("c:4 a:4 z:3")])
        self.moved(stepper, newer, "c:4 a:7 z:3")
        self.assertEqual(self.frames(stepper), "a g, z f")
        told = stepper.state()[1]
        self.assertEqual(told, ((("r", ("is", 4)), ("v", ("is", 5))), (("q", ("is", 3)), ("u", ("is", 4))), (("p", ("is", 3)),)))
        self.moved(stepper, elder, "c:4 a:4 z:3")
        self.assertEqual([self.frames(stepper), stepper.state()[1]], ["c h, z f", told])
        while stepper.outcome is None:
            stepper.step()
        self.assertEqual(stepper.outcome, ("gave", "NONE", (5, 5)))

    def frames(self, stepper):
        """The made functions under way, as the inner parts of the Stepper have them."""
        found, frame = [], stepper.moment.frame
        while frame is not None:
            found.append(f"{frame.home} {frame.function.name}")
            frame = frame.outer
        return ", ".join(found)

    def test_value_of_a_body_that_nobody_needs_now(self):
        a = "unit a / open f p / call x b.g p / show 1 / call z c.h x / end"
        b = "unit b / open g q / show q / give q / end"
        stepper = self.at(some(a, b, "unit c / open h r / show r / show r / show r / show r / end"), "b:4", (3,), budget=1)
        self.moved(stepper, some(a, b, "unit c / open h r / show 1 / show 1 / show 1 / show 1 / end"), "a:4")

    def test_first_values_of_further_cells(self):
        a = "unit a / cell c ON / open f p / keep c p / call x b.g / get y c / show y / end"
        b = "unit b / open g / show 1 / end"
        stepper = self.at(some(a, b), "a:5", (3,))
        self.moved(stepper, some(a.replace("cell c ON", "cell d OFF / cell c BAD"), "unit b / cell c NONE / open g / get x c / show x / end"), "a:6")
        self.assertEqual(stepper.state()[2], (("a", "c", ("is", 3)), ("a", "d", ("gone",)), ("b", "c", ("is", "NONE"))))
        while stepper.outcome is None:
            stepper.step()
        self.assertEqual(stepper.shown, ("NONE", 3))

    def test_fault_behind_a_move(self):
        a = "unit a / open f p / try / call x b.g p / catch e / show e / end / end"
        b = "unit b / open g q / show 1 / raise q / end"
        stepper = self.at(some(a, b), "b:3", ("OFF",))
        self.moved(stepper, some("unit a / cell c ON / open g / end / " + a[9:], "unit b / cell c ON / " + b[9:]), "b:4 a:7")
        self.look_on(stepper, "b:5 a:7; a:9; -", (1, "OFF"))


if __name__ == "__main__":
    unittest.main()

"""Steppers by hand: where they stop, what they show, back and until, and their errors."""

import unittest

from hungfacts.errors import BadBudget, BadValues, Ended, Endless, NoLine, NoRoot
from hungfacts.maderuns import run_made
from hungfacts.runs import steps
from hungfacts.stepping import Stepper
from tests.helper import program
from tests.kinds import KINDS
from tests.test_solving import FOUR, MAIN

ROOTS = (("a", "f"),)
ROOT = ("a", "f")
WORDS = ("ON", "OFF")
SMALL = "unit b / open g p / let y p * 2 / show y / give y / end"
CALLER = "unit a / open f p / call x b.g p / show x / give x / end"
LOOP = "unit a / open f p / let n 0 / while n < p / set n n + 1 / show n / end / give n / end"


def place(text):
    unit, line = text.split(":")
    return (unit, int(line))


def places(text):
    """Places written as `b:3 a:3`; - for the end."""
    return None if text == "-" else tuple([place(each) for each in text.split(" ")])


def properties(stepper):
    """All that a Stepper tells."""
    state = stepper.state() if stepper.outcome is None else None
    return (stepper.program, stepper.places, stepper.shown, stepper.outcome, stepper.done, state)


class StepTest(unittest.TestCase):
    maxDiff = None

    def begin(self, texts, values=(), budget=0, words=WORDS):
        return Stepper(program(texts, ROOTS, words), ROOT, values, budget=budget)

    def stands(self, stepper, text):
        self.assertEqual(stepper.places, places(text))

    def look(self, stepper, expected):
        """Go to the end; expected are the places of each stop, with `; ` between, the first one included."""
        found = [stepper.places]
        while stepper.outcome is None:
            found.append(stepper.step())
            self.assertEqual(stepper.places, found[-1])
            self.assertEqual(stepper.done, len(found) - 1)
        self.assertEqual(found, [places(text) for text in expected.split("; ")])
        self.assertRaises(Ended, stepper.step)


class TestPlaces(StepTest):
    def test_section_13(self):
        stepper = Stepper(program(FOUR, MAIN), MAIN[0], ())
        self.look(stepper, "m:3; k:3 m:3; k:6 m:3; m:4; b:3 m:4; c:3 b:3 m:4; k:3 c:3 b:3 m:4; k:4 c:3 b:3 m:4; -")
        self.assertEqual(stepper.outcome, ("raised", "BAD", places("k:4 c:3 b:3 m:4"), ()))

    def test_straight_on(self):
        stepper = self.begin(("unit a / open f p / show p / let x p / show x / give x / end",), (7,))
        self.look(stepper, "a:3; a:4; a:5; a:6; -")
        self.assertEqual([stepper.outcome, stepper.shown], [("gave", 7, (7, 7)), (7, 7)])

    def test_lines_that_are_left_out(self):
        text = "unit a / cell c ON / open f p / let x p / get y c / keep c p / let z ON / show z / show 1 / end"
        stepper = self.begin((text,), (7,))
        # z is always ON, but it is needed, so its line stays.
        self.look(stepper, "a:7; a:8; a:9; -")

    def test_while(self):
        stepper = self.begin((LOOP,), (2,))
        self.look(stepper, "a:3; a:4; a:5; a:6; a:4; a:5; a:6; a:4; a:8; -")
        self.assertEqual(stepper.outcome, ("gave", 2, (1, 2)))

    def test_if(self):
        text = "unit a / open f p / if p is ON / show 1 / else / show 2 / show 3 / end / if p is OFF / show 4 / end / end"
        self.look(self.begin((text,), ("ON",)), "a:3; a:4; a:9; -")
        self.look(self.begin((text,), ("OFF",)), "a:3; a:6; a:7; a:9; a:10; -")

    def test_if_with_one_way(self):
        text = "unit a / open f p / let x ON / if x is ON / show p / let y p / else / show 2 / end / if x is OFF / show 3 / end / show 4 / end"
        self.look(self.begin((text,), (1,)), "a:4; a:5; a:13; -")

    def test_try_and_do(self):
        text = "unit a / open f p / try / let x p + 1 / show x / catch e / show e / end / try / show 1 / catch e / end / do / show 2 / end / end"
        self.look(self.begin((text,), (1,)), "a:3; a:4; a:5; a:9; a:10; a:13; a:14; -")
        self.look(self.begin((text,), ("ON",)), "a:3; a:4; a:7; a:9; a:10; a:13; a:14; -")

    def test_calls(self):
        stepper = self.begin((CALLER, SMALL), (4,))
        self.look(stepper, "a:3; b:3 a:3; b:4 a:3; b:5 a:3; a:4; a:5; -")
        self.assertEqual(stepper.outcome, ("gave", 8, (8, 8)))

    def test_bodies_that_were_put_in(self):
        stepper = self.begin((CALLER, SMALL), (4,), budget=1)
        # The call itself and `let N A` are no stops.
        self.look(stepper, "b:3 a:3; b:4 a:3; b:5 a:3; a:4; a:5; -")
        self.assertEqual(stepper.outcome, ("gave", 8, (8, 8)))

    def test_value_that_a_body_gives_nobody(self):
        stepper = self.begin(("unit a / open f p / call x b.g p / show 1 / end", SMALL), (4,), budget=1)
        self.look(stepper, "b:3 a:3; b:4 a:3; a:4; -")

    def test_body_of_which_nothing_is_left(self):
        texts = ("unit a / open f p / call x b.g p / show 1 / end", "unit b / open g p / let y p / give y / end")
        self.look(self.begin(texts, (4,), budget=1), "a:4; -")
        self.look(self.begin(texts, (4,)), "a:3; b:4 a:3; a:4; -")

    def test_call_in_a_body(self):
        texts = ("unit a / open f p / call x b.g p / show x / end", "unit b / open g p / call y c.h p / give y / end",
                 "unit c / open h p / let z p + 1 / show z / let w z + z / give w / end")
        self.look(self.begin(texts, (4,), budget=1), "b:3 a:3; c:3 b:3 a:3; c:4 b:3 a:3; c:5 b:3 a:3; c:6 b:3 a:3; b:4 a:3; a:4; -")
        self.look(self.begin(texts, (4,), budget=0),
                  "a:3; b:3 a:3; c:3 b:3 a:3; c:4 b:3 a:3; c:5 b:3 a:3; c:6 b:3 a:3; b:4 a:3; a:4; -")

    def test_function_whose_last_lines_are_left_out(self):
        texts = ("unit a / open f p / call x b.g p / show 1 / end", "unit b / open g p / show p / let y p / end")
        self.look(self.begin(texts, (4,)), "a:3; b:3 a:3; a:4; -")

    def test_faults(self):
        texts = ("unit a / open f p / try / call x b.g p / catch e / show e / end / end", "unit b / open g p / show p / raise p / end")
        self.look(self.begin(texts, ("OFF",)), "a:3; a:4; b:3 a:4; b:4 a:4; a:6; -")
        stepper = self.begin(("unit a / open f p / show 1 / raise p / end",), (4,))
        self.look(stepper, "a:3; a:4; -")
        self.assertEqual(stepper.outcome, ("raised", "BAD", (("a", 4),), (1,)))

    def test_without_statements(self):
        for text in ("unit a / open f p / end", "unit a / open f p / let x p / end", "unit a / open f p / if p is ON / end / end"):
            stepper = self.begin((text,), (1,))
            if "if" in text:
                stepper.step()
            self.stands(stepper, "-")
            self.assertEqual([stepper.outcome, stepper.shown], [("gave", "NONE", ()), ()])
            self.assertRaises(Ended, stepper.step)
        stepper = self.begin(("unit a / open f p / end",), (1,))
        self.assertEqual(stepper.done, 0)
        self.assertRaises(Ended, stepper.back)
        self.assertRaises(Ended, stepper.until, "a", 3)
        self.assertRaises(Ended, stepper.until, "a", [])

    def test_never_tired(self):
        stepper = self.begin(("unit a / open f / let n 0 / while n < 3000 / set n n + 1 / end / show n / end",))
        for _ in range(3):
            self.assertRaises(Endless, stepper.until, "a", 7)
            for _ in range(1999):
                stepper.step()
        self.assertEqual(stepper.done, 5997)
        self.assertTrue(stepper.until("a", 7))
        self.assertEqual([stepper.done, stepper.step(), stepper.outcome], [6002, None, ("gave", "NONE", (3000,))])


class TestProperties(StepTest):
    def test_at_each_stop(self):
        stepper = self.begin((LOOP,), (2,))
        some = stepper.program
        self.assertEqual(some, program((LOOP,), ROOTS, WORDS))
        expected = [((), None)] * 4 + [((1,), None)] * 3 + [((1, 2), None)] * 2 + [((1, 2), ("gave", 2, (1, 2)))]
        for done, (shown, outcome) in enumerate(expected):
            self.assertEqual([stepper.shown, stepper.outcome, stepper.done], [shown, outcome, done])
            self.assertIs(stepper.program, some)
            if outcome is None:
                stepper.step()

    def test_are_set_when_it_is_created(self):
        stepper = self.begin((LOOP,), (2,))
        for name in ("program", "places", "shown", "outcome", "done"):
            self.assertIn(name, vars(stepper))

    def test_outcome_is_what_run_made_returns(self):
        for values in ((0,), (3,), ("ON",)):
            for budget in (0, 99):
                stepper = self.begin((LOOP,), values, budget=budget)
                while stepper.outcome is None:
                    stepper.step()
                self.assertEqual(stepper.outcome, run_made(stepper.program, ROOT, values, 2000, budget=budget))

    def test_values_that_steps_tells(self):
        stepper = self.begin((LOOP,), (2,))
        for at, names in steps(stepper.program, ROOT, (2,), 100):
            self.assertEqual(stepper.places, at)
            for name, value in names:
                self.assertEqual(stepper.told(name), ("is", value))
            stepper.step()


class TestBack(StepTest):
    def test_to_the_beginning_and_forth_again(self):
        for budget in (0, 1):
            stepper = self.begin((CALLER, SMALL), (4,), budget=budget)
            told = [properties(stepper)]
            while stepper.outcome is None:
                stepper.step()
                told.append(properties(stepper))
            for expected in told[-2::-1]:
                self.assertIsNone(stepper.back())
                self.assertEqual(properties(stepper), expected)
            self.assertRaises(Ended, stepper.back)
            self.assertEqual(properties(stepper), told[0])
            for expected in told[1:]:
                stepper.step()
                self.assertEqual(properties(stepper), expected)

    def test_to_and_fro(self):
        stepper = self.begin((LOOP,), (3,))
        for forth, back in ((3, 1), (4, 5), (2, 1), (6, 2), (1, 7)):
            for _ in range(forth):
                stepper.step()
            for _ in range(back):
                stepper.back()
        self.assertRaises(Ended, stepper.back)
        self.look(stepper, "a:3; a:4; a:5; a:6; a:4; a:5; a:6; a:4; a:5; a:6; a:4; a:8; -")

    def test_over_cells_and_faults(self):
        text = ("unit a / cell c 0 / open f p / try / keep c p / call x g / catch e / get y c / show y / show e / end / get z c / show z / end"
                " / local g / get v c / let w v + 1 / keep c w / show w / raise OFF / end").replace("cell c 0", "cell c OFF")
        for values in ((1,), ("ON",)):
            stepper = self.begin((text,), values)
            told = [properties(stepper)]
            while stepper.outcome is None:
                stepper.step()
                told.append(properties(stepper))
            for expected in told[-2::-1]:
                stepper.back()
                self.assertEqual(properties(stepper), expected)

    def test_each_step_of_until(self):
        stepper = self.begin((LOOP,), (3,))
        stepper.until("a", 8)
        for done in range(stepper.done - 1, -1, -1):
            stepper.back()
            self.assertEqual(stepper.done, done)
        self.stands(stepper, "a:3")

    def test_end_of_a_run_is_taken_back(self):
        stepper = self.begin(("unit a / open f p / show p / end",), (3,))
        stepper.step()
        self.assertRaises(Ended, stepper.step)
        stepper.back()
        self.assertEqual([stepper.places, stepper.shown, stepper.outcome, stepper.done], [(("a", 3),), (), None, 0])
        self.assertRaises(Ended, stepper.back)


class TestUntil(StepTest):
    def test_one_step_at_least(self):
        stepper = self.begin((LOOP,), (2,))
        self.assertIs(stepper.until("a", 4), True)
        self.assertEqual(stepper.done, 1)
        self.assertIs(stepper.until("a", 4), True)
        self.assertEqual([stepper.done, stepper.shown], [4, (1,)])
        self.assertIs(stepper.until("a", 3), False)
        self.assertEqual([stepper.places, stepper.outcome], [None, ("gave", 2, (1, 2))])
        self.assertRaises(Ended, stepper.until, "a", 4)

    def test_first_one_of_places_alone(self):
        stepper = self.begin((CALLER, SMALL), (4,))
        self.assertTrue(stepper.until("b", 4))
        self.stands(stepper, "b:4 a:3")
        self.assertFalse(stepper.until("a", 3))
        stepper = self.begin((CALLER, SMALL), (4,), budget=1)
        self.assertTrue(stepper.until("b", 5))
        self.stands(stepper, "b:5 a:3")

    def test_lines_that_no_made_unit_has(self):
        stepper = self.begin(("unit a / open f p / let x p / show p / end", "unit b / open g / show 1 / end"), (4,))
        self.assertFalse(stepper.until("a", 3))
        stepper.back()
        self.assertFalse(stepper.until("b", 3))
        stepper = self.begin((CALLER, SMALL), (4,), budget=1)
        self.assertFalse(stepper.until("a", 3))

    def test_no_line(self):
        text = "unit a / cell c ON / open f p / if p is ON / show 1 / else / end / try / catch e / end / while p is ON / end / do / end / end / local g / end"
        stepper = self.begin((text, SMALL), (4,))
        statements = (4, 5, 8, 11, 13)
        for line in (-1, 0, *range(1, 20), 61, 10 ** 17):
            if line not in statements:
                with self.assertRaises(NoLine) as caught:
                    stepper.until("a", line)
                self.assertEqual(caught.exception.value, ("a", line))
        for unit, line in (("b", 2), ("b", 6), ("c", 3), ("", 3), ("f", 4)):
            self.assertRaises(NoLine, stepper.until, unit, line)
        self.assertEqual(stepper.done, 0)
        for value in KINDS:
            for pair in ((value, 4), ("a", value), (value, value)):
                if pair != ("a", 4):
                    with self.assertRaises(NoLine) as caught:
                        stepper.until(*pair)
                    self.assertIs(caught.exception.value[0], pair[0])
                    self.assertIs(caught.exception.value[1], pair[1])
        for line in statements:
            stepper = self.begin((text, SMALL), (4,))
            stepper.until("a", line)

    def test_true_is_no_line(self):
        stepper = self.begin(("unit a / open f p / show p / end",), (4,))
        self.assertRaises(NoLine, stepper.until, "a", True)

    def test_endless(self):
        stepper = self.begin(("unit a / open f p / show p / while ON is ON / show 1 / end / show 2 / end",), (4,))
        for _ in range(5):
            told = properties(stepper)
            self.assertRaises(Endless, stepper.until, "a", 7)
            self.assertEqual(properties(stepper), told)
            stepper.step()
        self.assertEqual([stepper.shown, stepper.places], [(4, 1, 1), places("a:4")])
        for _ in range(5):
            stepper.back()
        self.assertRaises(Ended, stepper.back)
        self.assertEqual(stepper.shown, ())

    def test_two_thousand_steps_and_one_more(self):
        rows = "unit a / open f / let n 0 / while n < 998 / set n n + 1 / end / show 0 / show 1 / show 2 / end"
        # Ahead of line 7 there are the let, 999 tests and 998 sets.
        for line, done in (("7", 1998), ("8", 1999), ("9", 2000)):
            stepper = self.begin((rows,))
            self.assertTrue(stepper.until("a", int(line)))
            self.assertEqual(stepper.done, done)
        stepper = self.begin((rows.replace("show 0 /", "show 0 / show 0 /"),))
        self.assertRaises(Endless, stepper.until, "a", 10)
        self.assertEqual([stepper.done, stepper.places, stepper.shown], [0, (("a", 3),), ()])
        stepper.step()
        self.assertTrue(stepper.until("a", 10))
        # The end counts likewise: it is behind 2,001 steps.
        self.assertRaises(Endless, self.begin((rows,)).until, "a", 3)

    def test_names_of_arguments(self):
        stepper = self.begin((LOOP,), (2,))
        self.assertTrue(stepper.until(unit="a", line=5))


class TestErrors(StepTest):
    SOME = program(("unit a / open f p / show p / end / open g / end",), ROOTS, WORDS)

    def look(self, error, value, *given, **named):
        with self.assertRaises(error) as caught:
            Stepper(self.SOME, *given, **named)
        self.assertIs(caught.exception.value, value)

    def test_sequence(self):
        for value in KINDS:
            if value != ROOT:
                self.look(NoRoot, value, value, value, budget=value)
            self.look(BadValues, value, ROOT, value, budget=value)
            if value not in (0, 1, 99) or isinstance(value, bool):
                self.look(BadBudget, value, ROOT, (1,), budget=value)
        self.look(NoRoot, ("a", "g"), ("a", "g"), ())
        self.look(BadBudget, 100, ROOT, (1,), budget=100)
        self.look(BadBudget, -1, ROOT, (1,), budget=-1)

    def test_budget_is_0(self):
        self.assertEqual(Stepper(program((CALLER, SMALL), ROOTS, WORDS), ROOT, (1,)).places, places("a:3"))

    def test_names_of_arguments(self):
        stepper = Stepper(program=self.SOME, root=ROOT, values=("BAD",), budget=99)
        self.assertEqual([stepper.step(), stepper.shown], [None, ("BAD",)])
        self.assertRaises(TypeError, Stepper, self.SOME, ROOT, (1,), 0)

    def test_two_of_them_are_of_their_own(self):
        one, other = [Stepper(self.SOME, ROOT, (1,)) for _ in range(2)]
        one.step()
        self.assertEqual([one.shown, other.shown, other.places], [(1,), (), (("a", 3),)])


if __name__ == "__main__":
    unittest.main()

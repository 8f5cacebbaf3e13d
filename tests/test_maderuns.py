"""Runs of made units: by hand, and of made-up programs beside the runs of their sources."""

import unittest

from hungfacts.errors import BadBudget, BadCount, BadValues, NoRoot
from hungfacts.making import made
from hungfacts.maderuns import run_made
from hungfacts.programs import Program
from hungfacts.runs import run
from tests.helper import program
from tests.kinds import KINDS
from tests.makers import ProgramMaker
from tests.test_solving import FOUR, MAIN

ROOTS = (("a", "f"),)
ROOT = ("a", "f")
BUDGETS = (0, 1, 2, 5, 99)


class TestRuns(unittest.TestCase):
    def look(self, texts, values, expected, most=100, budgets=BUDGETS):
        """What comes of a run of the first open function of a, by each budget, as of the run of the sources."""
        some = program(texts, ROOTS, ("ON", "OFF"))
        self.assertEqual(run(some, ROOT, values, 2000), expected)
        for budget in budgets:
            self.assertEqual(run_made(some, ROOT, values, most, budget=budget), expected, budget)

    def test_four_units(self):
        some = program(FOUR, MAIN)
        for budget in BUDGETS:
            found = run_made(some, MAIN[0], (), 9, budget=budget)
            self.assertEqual(found, ("raised", "BAD", (("k", 4), ("c", 3), ("b", 3), ("m", 4)), ()))

    def test_without_statements(self):
        self.look(("unit a / open f / end",), (), ("gave", "NONE", ()))
        self.look(("unit a / open f p / let x p / end",), (7,), ("gave", "NONE", ()))

    def test_values(self):
        self.look(("unit a / open f p / let x p * 3 / set x x - 1 / give x / end",), (2,), ("gave", 5, ()))
        self.look(("unit a / open f p / let x 0 - p / give x / end",), (2,), ("gave", 1000001, ()))
        self.look(("unit a / open f p q / show q / show p / end",), ("ON", -4), ("gave", "NONE", (-4, "ON")))
        self.look(("unit a / open f / let x ON / show x / give x / end",), (), ("gave", "ON", ("ON",)))

    def test_cells(self):
        text = "unit a / cell c ON / cell d OFF / open f p / keep d p / get x c / keep c p / get y c / show x / show y / end"
        self.look((text,), (3,), ("gave", "NONE", ("ON", 3)))
        some = program((text,), ROOTS, ("ON", "OFF"))
        self.assertNotIn("cell d", made(some, "a").text)

    def test_try(self):
        text = "unit a / open f p / try / let x p + 1 / show x / catch e / show e / end / try / show p / catch e / show e / end / end"
        self.look((text,), (3,), ("gave", "NONE", (4, 3)))
        self.look((text,), ("ON",), ("gave", "NONE", ("BAD", "ON")))

    def test_sum_that_nobody_needs(self):
        text = "unit a / open f p / let x 1 / try / set x p + 1 / catch e / show e / end / show 2 / end"
        self.look((text,), (3,), ("gave", "NONE", (2,)))
        self.look((text,), ("ON",), ("gave", "NONE", ("BAD", 2)))

    def test_while(self):
        text = "unit a / open f p / let n 0 / while n < p / set n n + 1 / call x b.g n / show x / end / give n / end"
        other = "unit b / open g p / let y p + p / give y / end"
        self.look((text, other), (3,), ("gave", 3, (2, 4, 6)))
        self.look((text, other), ("ON",), ("raised", "BAD", (("a", 4),), ()))

    def test_ring_of_calls(self):
        a = "unit a / open f p / if p < 1 / give ON / end / let q p - 1 / call x b.g q / show q / give x / end"
        self.look((a, "unit b / open g p / call x a.f p / give x / end"), (4,), ("gave", "ON", (0, 1, 2, 3)))

    def test_places(self):
        a = "unit a / open f p / show 1 / call x b.g p / end"
        small = "unit b / open g p / let y p + 1 / give y / end"
        self.look((a, small), ("ON",), ("raised", "BAD", (("b", 3), ("a", 4)), (1,)))
        some = program((a, small), ROOTS, ("ON", "OFF"))
        self.assertEqual([made(some, "a", budget=budget).text.count("call") for budget in (0, 1)], [1, 0])
        # What stands in a body that was put in calls others from there.
        b = "unit b / open g p / call y c.h p / give y / end"
        c = "unit c / open h p / if p is ON / raise OFF / end / give p / end"
        self.look((a, b, c), ("ON",), ("raised", "OFF", (("c", 4), ("b", 3), ("a", 4)), (1,)))
        self.look((a, b, c), (2,), ("gave", "NONE", (1,)))

    def test_fault_that_is_caught_further_out(self):
        a = "unit a / open f p / try / call x b.g p / show x / catch e / show e / end / end"
        self.look((a, "unit b / open g p / call y c.h p / give y / end", "unit c / open h p / raise p / end"), (3,),
                  ("gave", "NONE", ("BAD",)))

    def test_goes_are_those_of_the_made_units(self):
        some = program(("unit a / open f p / call x b.g p / show x / end", "unit b / open g p / give p / end"), ROOTS, ("ON", "OFF"))
        self.assertEqual(run(some, ROOT, (3,), 1), ("tired",))
        self.assertEqual(run_made(some, ROOT, (3,), 1), ("tired",))
        self.assertEqual(run_made(some, ROOT, (3,), 2), ("gave", "NONE", (3,)))
        self.assertEqual(run_made(some, ROOT, (3,), 1, budget=1), ("gave", "NONE", (3,)))
        never = program(("unit a / open f / let p ON / while p is OFF / show p / end / show 1 / end",), ROOTS, ("ON", "OFF"))
        self.assertEqual(run(never, ROOT, (), 1), ("tired",))
        self.assertEqual(run_made(never, ROOT, (), 1), ("gave", "NONE", (1,)))

    def test_tired(self):
        some = program(("unit a / open f / while ON is ON / show 1 / end / end",), ROOTS, ("ON", "OFF"))
        for most in (1, 2, 2000):
            self.assertEqual(run_made(some, ROOT, (), most), ("tired",))

    def test_text_without_function(self):
        some = program(("unit a / open f / show 1 / end", "unit b / cell c ON / open g / end"), ROOTS)
        self.assertEqual(made(some, "b").text, "unit b")
        self.assertEqual(run_made(some, ROOT, (), 1), ("gave", "NONE", (1,)))

    def test_own_function_called_from_a_body(self):
        a = "unit a / open f p / call x b.g p / show x / end / open h p / show p / give 5 / end"
        b = "unit b / open g p / call y a.h p / give y / end"
        some = program((a, b), ROOTS, ("ON", "OFF"))
        self.assertIn("a.h", made(some, "a", budget=1).text)
        self.look((a, b), ("ON",), ("gave", "NONE", ("ON", 5)))


class TestErrors(unittest.TestCase):
    SOME = program(("unit a / open f p / end / open g / end",), ROOTS, ("ON", "OFF"))

    def look(self, error, value, *given, **named):
        with self.assertRaises(error) as caught:
            run_made(self.SOME, *given, **named)
        self.assertIs(caught.exception.value, value)

    def test_sequence(self):
        for value in KINDS:
            if value != ROOT:
                self.look(NoRoot, value, value, value, value, budget=value)
            self.look(BadValues, value, ROOT, value, value, budget=value)
            if value not in (1, 99, 100) or value is True:
                self.look(BadCount, value, ROOT, (1,), value, budget=value)
            if value not in (0, 1, 99) or isinstance(value, bool):
                self.look(BadBudget, value, ROOT, (1,), 5, budget=value)

    def test_edges(self):
        self.look(NoRoot, ("a", "g"), ("a", "g"), (), 1)
        for most in (0, -1, 2001):
            self.look(BadCount, most, ROOT, (1,), most)
        for budget in (-1, 100):
            self.look(BadBudget, budget, ROOT, (1,), 1, budget=budget)
        for most in (1, 2000):
            for budget in (0, 99):
                self.assertEqual(run_made(self.SOME, ROOT, ("BAD",), most, budget=budget), ("gave", "NONE", ()))

    def test_names_of_arguments(self):
        self.assertEqual(run_made(program=self.SOME, root=ROOT, values=(1,), most=1, budget=1), ("gave", "NONE", ()))
        self.assertRaises(TypeError, run_made, self.SOME, ROOT, (1,), 1, 1)


class TestCompare(unittest.TestCase):
    def test_made_up_programs(self):
        seen = {}
        for seed in range(120):
            maker = ProgramMaker(seed, lines=(3, 40), small=0.5)
            turned = Program(maker.program.units[::-1], maker.roots)
            for root in maker.roots:
                values = maker.values(root)
                for most in (3, 30, 300):
                    plain = run(maker.program, root, values, most)
                    for budget in (0, 1, 3, 99):
                        told = run_made(maker.program, root, values, most, budget=budget)
                        self.assertEqual(run_made(turned, root, values, most, budget=budget), told)
                        seen[plain[0], told[0]] = seen.get((plain[0], told[0]), 0) + 1
                        if plain[0] == "tired" and told[0] != "tired":
                            plain_more = run(maker.program, root, values, 2000)
                            self.assertIn(plain_more, (told, ("tired",)))
                        else:
                            self.assertEqual(told, plain)
        self.assertGreater(min(seen.values()), 5)
        self.assertEqual(len(seen), 5)


if __name__ == "__main__":
    unittest.main()

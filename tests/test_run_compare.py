"""Runs of made-up programs, held against the plain runs of tests/plain_runs.py and against the facts."""

import sys
import unittest

from hungfacts.runs import met, run, steps
from hungfacts.solving import facts
from tests.makers import ProgramMaker
from tests.plain_runs import PlainRun


class TestCompare(unittest.TestCase):
    def setUp(self):
        kept = sys.getrecursionlimit()
        self.addCleanup(sys.setrecursionlimit, kept)
        sys.setrecursionlimit(8000)

    def look(self, maker, root, values, most, known):
        plain = PlainRun(maker.words, maker.texts, root, values, most)
        told = (maker.program, root, values, most)
        self.assertEqual(run(*told), plain.outcome)
        self.assertEqual(list(steps(*told)), plain.steps)
        self.assertEqual(met(*told), plain.met)
        self.assertLessEqual(set(plain.met), known)
        return plain

    def test_made_up_programs(self):
        outcomes = {"gave": 0, "raised": 0, "tired": 0}
        for seed in range(250):
            maker = ProgramMaker(seed)
            known = {fact for fact, _ in facts(maker.program)}
            for root in maker.roots:
                values = maker.values(root)
                with self.subTest(maker.texts, root=root, values=values):
                    plain = self.look(maker, root, values, 60, known)
                    outcomes[plain.outcome[0]] += 1
                    for most in {1, 2, 7, plain.goes - 1, plain.goes} - {0, 61}:
                        self.look(maker, root, values, most, known)
        self.assertGreater(min(outcomes.values()), 20)

    def test_fewer_goes_tell_fewer_facts(self):
        for seed in range(40):
            maker = ProgramMaker(seed)
            root = maker.roots[0]
            values = maker.values(root)
            told = [set(met(maker.program, root, values, most)) for most in (1, 2, 3, 5, 9, 20, 40)]
            for fewer, more in zip(told, told[1:]):
                self.assertLessEqual(fewer, more)


if __name__ == "__main__":
    unittest.main()

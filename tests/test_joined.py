"""What holds by summaries alone, held against the facts of the whole program."""

import unittest

from hungfacts.errors import BadRoots, BadUnits, NoFunction
from hungfacts.summaries import joined
from tests.helper import fact, program, unit
from tests.kinds import KINDS, UNIT
from tests.makers import ProgramMaker
from tests.plain_facts import plain_facts
from tests.plain_summaries import plain_inputs, plain_outputs
from tests.test_solving import FOUR, LESS, MAIN


def crossing(some):
    """The facts of a program that are inputs or outputs of its units."""
    border = {each for one in some.units for each in plain_inputs(one) + plain_outputs(one)}
    return tuple(sorted(border & set(plain_facts(some))))


class TestJoined(unittest.TestCase):
    def test_rings(self):
        for texts in (FOUR, LESS, FOUR[::-1]):
            some = program(texts, MAIN)
            self.assertEqual(joined(some.units, MAIN), crossing(some))
            self.assertEqual(joined(units=tuple([unit(text) for text in texts]), roots=MAIN), crossing(some))
        self.assertIn(fact("called b g"), joined(program(FOUR, MAIN).units, MAIN))
        self.assertNotIn(fact("called b g"), joined(program(LESS, MAIN).units, MAIN))
        self.assertIn(fact("raises m main BAD"), joined(program(FOUR, MAIN).units, MAIN))

    def test_by_hand(self):
        texts = ("unit a / open f p / call x b.g p / give x / end", "unit b / open g q / if q is ON / raise q / end / give 1 / end")
        roots = (("a", "f"),)
        expected = [fact(f"{kind} {rest}{worth}") for worth in ("ON", "NONE", "BAD", "num")
                    for kind, rest in (("holds", "a f 0 "), ("holds", "b g 0 "))]
        expected += [("raises", *called, word) for word in ("ON", "NONE", "BAD") for called in (("a", "f"), ("b", "g"))]
        expected += [fact(row) for row in ("called a f", "wants a f", "called b g", "wants b g", "needs b g 0", "needs a f 0",
                                           "gives b g num", "gives a f num", "back b g",
                                           "back a f")]
        self.assertEqual(joined(program(texts, roots).units, roots), tuple(sorted(expected)))

    def test_several_roots(self):
        texts = ("unit a / open f p / end / open g p / show p / end", "unit b / open f / call x a.g 1 / end")
        for roots in ((("a", "f"),), (("b", "f"),), (("a", "f"), ("b", "f")), (("a", "f"), ("a", "g"), ("b", "f"))):
            some = program(texts, roots)
            self.assertEqual(joined(some.units, roots), crossing(some))
            for root in roots:
                self.assertIn(("wants", *root), joined(some.units, roots))

    def test_made_up_programs(self):
        for seed in range(60):
            maker = ProgramMaker(seed)
            with self.subTest(maker.texts):
                self.assertEqual(joined(maker.program.units[::-1], maker.roots), crossing(maker.program))

    def test_errors(self):
        a, b = unit("unit a / open f / call x b.g / end"), unit("unit b / open g p / end")
        for value in KINDS:
            if value != (UNIT,):
                with self.assertRaises(BadUnits) as caught:
                    joined(value, None)
                self.assertIs(caught.exception.value, value)
        for units in ((a, a), [a, b], (), (a, unit("unit b / open g / end", ("OFF",)))):
            with self.assertRaises(BadUnits) as caught:
                joined(units, (("c", "f"),))
            self.assertIs(caught.exception.value, units)
        for roots in ((), (("a", "g"),), [("a", "f")], (("b", "g"), ("a", "f"))):
            with self.assertRaises(BadRoots) as caught:
                joined((a, b), roots)
            self.assertIs(caught.exception.value, roots)
        with self.assertRaises(NoFunction) as caught:
            joined((b, a), (("a", "f"),))
        self.assertEqual(caught.exception.call, ("a", 3))


if __name__ == "__main__":
    unittest.main()

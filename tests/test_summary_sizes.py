"""Summaries, parting and making at the greatest sizes: each call answers, and does so soon."""

import random
import unittest

from hungfacts.errors import BadUnit
from hungfacts.making import made
from hungfacts.parting import alike, parting, shows_parting
from hungfacts.questions import answer
from hungfacts.summaries import follows, inputs, joined, summary
from hungfacts.units import Unit
from tests.helper import program, unit
from tests.makers import ProgramMaker, UnitMaker
from tests.test_compare import spoiled
from tests.test_sizes import LONG, SizeTest, big_programs

TWO = ("ON", "OFF")
# Units of up to 30 lines with six tests with `is` or two tries among them, that call three functions.
UNITS = (
    "unit u / open f p q / call x v.g p / call y v.h q / call z w.f x y / if p is ON / if q is OFF / if x is NONE / if y is BAD"
    " / if z is ON / show p / end / end / end / end / end / let n x + y / give n / end / open g r s / if r is ON / give r / end / end",
    "unit u / open f p q / call x v.g / call y v.h / call z w.f / let n p / if p is ON / set n q / end / if q is OFF / set n x / end"
    " / if x is NONE / set n y / end / if y is BAD / set n z / end / if z is ON / set n p / end / if n is ON / raise n / end / give n"
    " / end",
    "unit u / cell c ON / cell d OFF / open f p q / call x v.g p / keep c x / get a c / if a is OFF / keep d q / end / get b d"
    " / if b is NONE / call y v.h b / keep c y / end / give b / end / open g r s / get a c / if a is BAD / keep d r / end / get b d"
    " / if b is OFF / end / give s / end",
    "unit u / open f p q / try / call x v.g p / call y v.h q / if x is ON / raise y / end / catch e / if e is ON / call z w.f e"
    " / show z / end / if e is OFF / raise p / end / end / try / let k p + q / raise k / catch h / if h is BAD / give h / end / end"
    " / give p / end / open g r s / end",
    "unit u / open f p q / let a p / let b q / let n 0 / while n < 9 / call x v.g a / call y v.h b / if x is ON / set a y / end"
    " / if y is OFF / set b x / end / if a is NONE / set n b / end / end / if b is BAD / raise a / end / give n / end")


class TestSizes(SizeTest):
    def test_hard_units(self):
        for text in UNITS:
            some = unit(text, TWO)
            self.assertLessEqual(len(some.lines), 33)
            found = self.soon(summary, some)
            self.assertGreater(len(found), 5)
            self.soon(follows, some, inputs(some))
            for old, new in ((" p / ", " q / "), ("is ON", "is OFF"), ("v.h", "v.g"), ("give", "show"), ("let", "do / end / let")):
                try:
                    other = unit(text.replace(old, new), TWO)
                    value = self.soon(parting, some, other)
                except BadUnit:
                    continue
                self.assertEqual(value is None, self.soon(alike, some, other))
                self.assertEqual(value is not None, self.soon(shows_parting, some, other, value))

    def test_made_up_units(self):
        for seed in range(25):
            maker = UnitMaker(seed, opens=(2, 3), asks=(3, 4), words=TWO, lines=(25, 30), params=(2, 3))
            self.soon(summary, maker.unit)
            rows = spoiled(maker.text.split("\n"), random.Random(seed))
            try:
                other = Unit(TWO, "\n".join(rows))
            except BadUnit:
                continue
            if other.opens == maker.unit.opens and set(other.asks) <= set(maker.unit.asks):
                value = self.soon(parting, maker.unit, other)
                self.assertEqual(value is not None, self.soon(shows_parting, maker.unit, other, value))

    def test_joined(self):
        for seed in range(4):
            maker = ProgramMaker(seed, many=6, words=TWO, lines=(15, 25))
            self.soon(joined, maker.program.units, maker.roots)

    def test_three_words(self):
        maker = UnitMaker(5, opens=(2, 3), asks=(3, 4), words=("ON", "OFF", "A"), lines=(25, 30), params=(2, 3))
        self.soon(summary, maker.unit)

    def test_making(self):
        for maker in big_programs():
            for budget in (0, 99):
                for name in maker.program.names:
                    found = self.soon(lambda: made(maker.program, name, budget=budget))
                    self.assertTrue(found.text.startswith("unit " + name))
            self.soon(answer, maker.program, ("put", "a", 3))

    def test_many_bodies(self):
        rows = ["unit a", "open f p"] + [f"call y{k} b.g p" for k in range(56)] + ["show y7", "end"]
        some = program(("\n".join(rows), "unit b / open g p / let x p + 1 / show x / give x / end"), (("a", "f"),))
        found = self.soon(lambda: made(some, "a", budget=99))
        self.assertEqual(found.text.count("\n"), 2 + 56 * 3 + 2)

    def test_long_strings(self):
        maker = ProgramMaker(0)
        self.assertEqual(self.soon(answer, maker.program, ("called", LONG, LONG)), "no")
        self.assertEqual(self.soon(answer, maker.program, ("words", "a", LONG, 10 ** 18 - 1)), "-")
        one, other = unit("unit b / open g / give 1 / end"), unit("unit b / open g / give ON / end")
        self.assertFalse(self.soon(shows_parting, one, other, ((LONG, LONG), ("back", "b", "g"), 0)))


if __name__ == "__main__":
    unittest.main()

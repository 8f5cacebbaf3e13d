import copy
import unittest

from hungfacts.programs import Program
from hungfacts.units import Unit
from tests.helper import WORDS, spread, unit

LONG = spread("unit u / cell c ON / cell a OFF / open z p q / call x v.h p / call y b.g / call w l p / end"
              " / local l p / call x v.g 1 2 3 / call y b.g / end / open a / call x v.h 1 / end / open m r s t / end")


class TestProperties(unittest.TestCase):
    def test_all(self):
        found = Unit(("ON", "OFF"), LONG)
        self.assertEqual(found.words, ("ON", "OFF"))
        self.assertEqual(found.text, LONG)
        self.assertEqual(found.name, "u")
        self.assertEqual(found.lines, tuple(LONG.split("\n")))
        self.assertEqual(found.opens, (("a", 0), ("m", 3), ("z", 2)))
        self.assertEqual(found.asks, (("b", "g", 0), ("v", "g", 3), ("v", "h", 1)))

    def test_kinds(self):
        found = Unit(("ON", "OFF"), LONG)
        for value in (found.words, found.lines, found.opens, found.asks, found.opens[0], found.asks[0]):
            self.assertIs(value.__class__, tuple)
        self.assertIs(found.opens[0][1].__class__, int)
        self.assertIs(found.asks[0][2].__class__, int)

    def test_empty_ones(self):
        found = unit("unit a / local f / end")
        self.assertEqual([found.opens, found.asks, found.lines], [(), (), ("unit a", "local f", "end")])

    def test_words_keep_their_sequence(self):
        self.assertEqual(unit("unit a / open f / end", ("OFF", "A", "ON")).words, ("OFF", "A", "ON"))

    def test_asks_each_once_and_of_other_units_alone(self):
        found = unit("unit a / local l / call x l / end / open f / call x b.g / call y b.g / do / call z b.g / end / end")
        self.assertEqual(found.asks, (("b", "g", 0),))

    def test_asks_of_functions_with_the_same_name(self):
        found = unit("unit a / open g / call x c.g 1 / call y b.g ON 2 / call z c.a / end")
        self.assertEqual(found.asks, (("b", "g", 2), ("c", "a", 0), ("c", "g", 1)))


class TestEquality(unittest.TestCase):
    def test_equal(self):
        one, other = Unit(("ON", "OFF"), LONG), Unit(("ON", "OFF"), LONG)
        self.assertTrue(one == other)
        self.assertFalse(one != other)
        self.assertTrue(one == one)

    def test_unlike(self):
        text = "unit a\nopen f\nend"
        one = Unit(WORDS, text)
        others = [Unit(("OFF",), text), Unit(("ON", "OFF"), text), Unit(WORDS, "unit b\nopen f\nend"),
                  Unit(WORDS, "unit a\nopen f\nshow 1\nend"), Program((one,), (("a", "f"),)),
                  text, (WORDS, text), ("unit a", "open f", "end"), None, True, 0, 1, (), [], {}, "a", (one,), [one]]
        for other in others:
            with self.subTest(repr(other)):
                self.assertFalse(one == other)
                self.assertTrue(one != other)
                self.assertFalse(other == one)

    def test_words_in_another_sequence(self):
        text = "unit a\nopen f\nend"
        self.assertFalse(Unit(("ON", "OFF"), text) == Unit(("OFF", "ON"), text))


class TestArgumentsStay(unittest.TestCase):
    def test_wrong_words(self):
        value = [["ON"], {"a": ["ON", ("x",)]}]
        before = copy.deepcopy(value)
        with self.assertRaises(ValueError):
            Unit(value, [1])
        self.assertEqual(value, before)

    def test_right_ones(self):
        words, text = ("ON", "OFF"), LONG
        found = Unit(words, text)
        self.assertEqual([words, text], [("ON", "OFF"), LONG])
        self.assertEqual(found, Unit(words, text))

    def test_units_of_a_program(self):
        one = unit("unit a / open f p / call x b.g / end")
        other = unit("unit b / open g / end")
        told = [(each.words, each.text, each.name, each.lines, each.opens, each.asks) for each in (one, other)]
        Program((other, one), (("a", "f"),))
        again = [(each.words, each.text, each.name, each.lines, each.opens, each.asks) for each in (one, other)]
        self.assertEqual(told, again)


if __name__ == "__main__":
    unittest.main()

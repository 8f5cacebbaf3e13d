import unittest

from hungfacts.errors import BadRoots, BadUnits, NoFunction, NoUnit
from hungfacts.programs import Program
from hungfacts.units import Unit
from tests.helper import program, unit
from tests.kinds import KINDS, UNIT

A = "unit a / open f p / call x b.g p / end / open h / end / local l / end"
B = "unit b / cell c ON / open g p / call x a.h / end"
ROOT = (("a", "f"),)


class TestProgram(unittest.TestCase):
    def setUp(self):
        self.a, self.b = unit(A), unit(B)

    def test_properties(self):
        found = Program((self.b, self.a), (("a", "f"), ("b", "g")))
        self.assertEqual(found.words, ("ON",))
        self.assertEqual(found.units, (self.a, self.b))
        self.assertEqual(found.names, ("a", "b"))
        self.assertEqual(found.roots, (("a", "f"), ("b", "g")))
        self.assertEqual(found, Program(units=(self.a, self.b), roots=(("a", "f"), ("b", "g"))))

    def test_unit(self):
        found = Program((self.a, self.b), ROOT)
        self.assertEqual(found.unit("b"), self.b)
        self.assertEqual(found.unit(name="a"), self.a)
        for value in [value for value in KINDS if value != "a"] + ["c", "f", "aa", "A", ["a"], {"a": 1}, self.a, [self.a], found]:
            with self.subTest(repr(value)):
                with self.assertRaises(NoUnit) as caught:
                    found.unit(value)
                self.assertIs(caught.exception.value, value)

    def test_equality(self):
        found = Program((self.a, self.b), ROOT)
        self.assertTrue(found == Program((unit(B), unit(A)), ROOT))
        self.assertFalse(found != Program((unit(B), unit(A)), ROOT))
        others = [Program((self.a, self.b), (("a", "h"),)), program((A, B), ROOT, ("OFF", "ON")), self.a,
                  Program((self.a, unit(B.replace("c ON", "c BAD"))), ROOT), None, 0, (), ROOT, ((self.a, self.b), ROOT)]
        for other in others:
            with self.subTest(repr(other)):
                self.assertFalse(found == other)
                self.assertTrue(found != other)

    def test_bad_units(self):
        a, b = self.a, self.b
        other = Unit(("ON", "OFF"), B.replace(" / ", "\n"))
        turned = Unit(("OFF", "ON"), B.replace(" / ", "\n"))
        for value in ((), [], [a, b], a, None, 0, "a", {}, (a, None), (a, "unit b"), ((a, b),), (a, a), (a, b, unit(B)),
                      (a, other), (other, turned), (other, a), (a, [b])) + tuple([(a, each) for each in KINDS if each != UNIT]):
            for roots in (ROOT, None, ()):
                with self.subTest(repr(value)):
                    with self.assertRaises(BadUnits) as caught:
                        Program(value, roots)
                    self.assertIs(caught.exception.value, value)

    def test_bad_roots(self):
        for value in ((), [], [("a", "f")], None, 0, True, "af", ("a", "f"), (("a", "f", "g"),), (("a",),), (["a", "f"],),
                      (("a", 1),), ((None, "f"),), (("a", "f"), None), (("a", "l"),), (("a", "x"),), (("c", "f"),),
                      (("b", "f"),), (("a", "g"),), (("b", "g"), ("a", "f")), (("a", "f"), ("a", "f")),
                      (("a", "h"), ("a", "f")), (("a", "f"), ("a", "l")), ("af",), {("a", "f"): 1}, (("a", ["f"]),),
                      (("a", "f"), (0, "f")), self.a, (self.a,)) + tuple([(("a", "f"), each) for each in KINDS]):
            with self.subTest(repr(value)):
                with self.assertRaises(BadRoots) as caught:
                    Program((self.a, self.b), value)
                self.assertIs(caught.exception.value, value)

    def test_ascending_roots(self):
        for value in ((("a", "f"), ("a", "h")), (("a", "h"), ("b", "g")), (("a", "f"), ("a", "h"), ("b", "g"))):
            self.assertEqual(Program((self.b, self.a), value).roots, value)

    def look(self, texts, call):
        for some in (texts, texts[::-1]):
            with self.subTest(some):
                with self.assertRaises(NoFunction) as caught:
                    program(some, ROOT)
                self.assertEqual(caught.exception.call, call)

    def test_no_function(self):
        a = "unit a / open f / call x b.g 1 / call y c.g / end"
        c = "unit c / open g / end"
        self.look((a, c), ("a", 3))
        self.look((a, "unit b / open h p / end", c), ("a", 3))
        self.look((a, "unit b / local g p / end", c), ("a", 3))
        self.look((a, "unit b / open g / end", c), ("a", 3))
        self.look((a, "unit b / open g p q / end", c), ("a", 3))
        self.look((a, "unit b / open g p / end"), ("a", 4))
        self.look((a, "unit b / open g p / end", "unit c / open g / call x d.g / end"), ("c", 3))
        self.look(("unit a / open f / end", "unit b / open f / end / open g / call x d.g / end / open h / call y e.g / end",
                   "unit c / open f / do / call x d.g / end / end"), ("b", 5))

    def test_local_calls_are_no_calls_of_other_units(self):
        a = "unit a / open f / call x l 1 / call y b.b / end / local l p / call x a / end / local a / end"
        b = "unit b / open b / call x c.b 1 / end / open b2 / end"
        c = "unit c / local c / end / open b p / call x c / end"
        self.assertEqual(program((a, b, c), ROOT).names, ("a", "b", "c"))
        self.look((a, b, c.replace("b p", "b")), ("b", 3))
        self.look((a, b.replace("open b ", "open b3 ")), ("a", 4))

    def test_functions_with_the_name_of_their_unit(self):
        a = "unit a / open f / call x b.a / call y b.b / end"
        self.look((a, "unit b / open b / end"), ("a", 3))
        self.look((a, "unit b / open a / end"), ("a", 4))
        self.assertEqual(program((a, "unit b / open a / end / open b / end"), ROOT).names, ("a", "b"))

    def test_roots_ahead_of_calls(self):
        with self.assertRaises(BadRoots):
            program(("unit a / open f / call x b.g / end",), (("a", "g"),))

    def test_units_call_one_another_in_rings(self):
        found = program(("unit a / open f / call x b.f / end", "unit b / open f / call x a.f / end"), (("a", "f"),))
        self.assertEqual(found.names, ("a", "b"))


if __name__ == "__main__":
    unittest.main()

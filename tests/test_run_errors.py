"""What run, steps and met raise, for values of all kinds."""

import unittest

from hungfacts.errors import BadCount, BadValues, NoRoot
from hungfacts.runs import met, run, steps
from tests.helper import program
from tests.kinds import KINDS

SOME = program(("unit a / open f p q / end / open g / end / local l / end", "unit b / open h p / end"),
               (("a", "f"), ("b", "h")), ("ON", "OFF"))
ROOT = ("a", "f")


def ways():
    return (run, met, lambda *given, **named: next(steps(*given, **named)), lambda *given: list(steps(*given)))


class TestErrors(unittest.TestCase):
    def look(self, error, value, *given):
        for way in ways():
            with self.subTest(error, value=repr(value)):
                with self.assertRaises(error) as caught:
                    way(SOME, *given)
                self.assertIs(caught.exception.value, value)

    def test_no_root(self):
        others = (("a", "g"), ("a", "l"), ("b", "f"), ("c", "f"), ("a", "f", "p"), ("a",), ["a", "f"], "af", ("f", "a"))
        for value in KINDS + others:
            if value != ROOT:
                self.look(NoRoot, value, value, (1, 2), 5)
                self.look(NoRoot, value, value, None, None)

    def test_bad_values(self):
        wrong = ((1,), (1, 2, 3), [1, 2], ("ON", "on"), (1, "AB"), (1, True), (False, 1), (1, None), (1, ("ON",)), (1, [2]),
                 ("num", 1), ("", 1), (1, "1"), {1: 2, 3: 4}, "ON", ({}, 1))
        for value in KINDS + wrong:
            self.look(BadValues, value, ROOT, value, 5)
            self.look(BadValues, value, ROOT, value, 0)
        self.look(BadValues, (), ("b", "h"), (), 5)

    def test_words_of_other_programs(self):
        some = program(("unit a / open f p / end",), (ROOT,), ("UP",))
        for word in ("ON", "OFF", "A"):
            with self.assertRaises(BadValues) as caught:
                run(some, ROOT, (word,), 5)
            self.assertEqual(caught.exception.value, (word,))
        self.assertEqual([run(some, ROOT, (value,), 5)[0] for value in ("UP", "NONE", "BAD", 0)], ["gave"] * 4)

    def test_right_values(self):
        for value in ("ON", "OFF", "NONE", "BAD", 0, -1, 1, 999999999999999999, -999999999999999999):
            self.assertEqual(run(SOME, ROOT, (value, 1), 1), ("gave", "NONE", ()))
            self.assertEqual(run(SOME, ("b", "h"), (value,), 1), ("gave", "NONE", ()))

    def test_bad_count(self):
        for value in [value for value in KINDS if value not in (1, 99, 100) or value is True] + [2001, -2000, "5", (5,)]:
            self.look(BadCount, value, ROOT, (1, 2), value)

    def test_right_count(self):
        for value in (1, 2, 1999, 2000):
            self.assertEqual(run(SOME, ROOT, (1, 2), value), ("gave", "NONE", ()))
            self.assertEqual(list(steps(SOME, ROOT, (1, 2), value)), [])

    def test_by_name(self):
        for way in ways()[:3]:
            with self.assertRaises(BadCount) as caught:
                way(most=True, values=(1, 2), root=ROOT, program=SOME)
            self.assertIs(caught.exception.value, True)

    def test_a_call_that_raises_changes_nothing(self):
        values = [1, 2]
        self.look(BadValues, values, ROOT, values, 5)
        self.assertEqual(values, [1, 2])
        self.assertEqual(run(SOME, ROOT, (1, 2), 1), ("gave", "NONE", ()))


if __name__ == "__main__":
    unittest.main()

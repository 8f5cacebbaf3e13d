"""Calls of local functions and of functions of other units."""

import unittest

from tests.helper import bad_line

LOCAL = [
    ("unit a / open f / call x g / end / local g / end", None),
    ("unit a / local g / end / open f / call x g / end", None),
    ("unit a / local g / call x g / end", None),
    ("unit a / local g / call x h / end / local h / call x g / end", None),
    ("unit a / local g p q r / end / open f / call x g 1 ON NONE / end", None),
    ("unit a / open f / call x g 1 ON -2 / end / local g p q r / end", None),
    ("unit a / open f / call x g / end / local g p / end", 3),
    ("unit a / open f / call x g 1 / end / local g / end", 3),
    ("unit a / local g p / end / open f / call x g / end", 5),
    ("unit a / local g p / end / open f / call x g 1 2 / end", 5),
    ("unit a / open f / call x g 1 2 3 / end / local g p q / end", 3),
    ("unit a / open f / call x g / end", 3),
    ("unit a / open f / call x f / end", 3),
    ("unit a / open f p / call x f p / end", 3),
    ("unit a / open g / end / open f / call x g / end", 5),
    ("unit a / open f / call x g / end / open g / end", 3),
    ("unit a / cell g ON / open f / call x g / end", 4),
    ("unit a / open f / call x a / end", 3),
    ("unit a / open f / call x g / call y h / end / local g / end", 4),
    ("unit a / open f / call x h / call y g / end / local g / end", 3),
    ("unit a / open f / call x g / end / open h / call x g 1 / end / local g / end", 6),
    ("unit a / open f / do / if 1 is ON / call x g 1 / end / end / call x g 2 / end / local g / end", 5),
    ("unit a / local h / call x g 1 / end / local g / call x h 1 / end", 3),
]

OTHERS = [
    ("unit a / open f / call x b.g / end", None),
    ("unit a / open f / call x b.g / call y b.h 1 / call z c.g 1 2 / end", None),
    ("unit a / open f / call x b.g 1 / call y b.g ON / end / open h / call x b.g 2 / end", None),
    ("unit a / open f / call x b.f / end", None),
    ("unit a / open f / call x b.g / call y b.g 1 / end", 4),
    ("unit a / open f / call x b.g 1 / call y b.g / end", 4),
    ("unit a / open f / call x b.g 1 2 / call y b.g 1 2 3 / end", 4),
    ("unit a / open f / call x b.g / call y b.g / call z b.g 1 / end", 5),
    ("unit a / open f / call x b.g / end / local h / call x b.g 1 / end", 6),
    ("unit a / open f / do / call x b.g / end / do / call x b.g 1 / end / end", 7),
    ("unit a / open f / call x b.g / call y b.g 1 / junk / end", 4),
    ("unit a / open f / call x b.g / junk / call y b.g 1 / end", 4),
    ("unit a / open f / call x a.f / end", 3),
    ("unit a / local f / call x a.f / end", 3),
    ("unit a / open f / call x a.g / end", 3),
    ("unit ab / open f / call x a.g / call y abc.g / end", None),
    ("unit a / local g / end / open f / call x b.g 1 / call y g / end", None),
    ("unit a / open f / call x b.g 1 2 3 4 / end", 3),
    ("unit a / local g p q r / end / open f / call x g 1 2 3 4 / end", 5),
    ("unit a / open f / call x b.g 1 2 3 / end", None),
]


class TestCalls(unittest.TestCase):
    def look(self, rows):
        for text, line in rows:
            with self.subTest(text):
                self.assertEqual(bad_line(text), line)

    def test_local(self):
        self.look(LOCAL)

    def test_of_other_units(self):
        self.look(OTHERS)

    def test_numbers_of_operands(self):
        for params in range(4):
            for many in range(5):
                local = f"unit a / local g{' p q r'[:2 * params]} / end / open f / call x g{' 1' * many} / end"
                with self.subTest(local):
                    self.assertEqual(bad_line(local), None if many == params else 5)
                other = f"unit a / open f / call x b.g{' 1' * params} / call y b.g{' 1' * many} / end"
                with self.subTest(other):
                    self.assertEqual(bad_line(other), None if many == params else 4)


if __name__ == "__main__":
    unittest.main()

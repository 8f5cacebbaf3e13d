"""Which line BadUnit tells, and where lines may stand."""

import unittest

from tests.helper import bad_line

FIRST_WRONG = [
    ("unit a / open f / shwo 1 / sohw 2 / end", 3),
    ("unit a / open f / show 1 / show y / end / junk", 4),
    ("junk / junk", 1),
    ("unit a / junk / open f / show y / end", 2),
    ("unit a / open f / call x g / show y / end", 4),
    ("unit a / open f / call x g / end / junk", 5),
    ("unit a / open f / call x g / if 1 is ON", 5),
]

OTHER_PLACES = [
    ("unit a / unit a / open f / end", 2), ("unit a / unit b / open f / end", 2), ("unit a / open f / unit b / end", 3),
    ("unit a / open f / end / unit b", 4), ("unit a / cell c ON / unit a / open f / end", 3),
    ("unit a / open f / end / cell c ON", 4), ("unit a / open f / cell c ON / end", 3),
    ("unit a / local f / end / cell c ON / open g / end", 4),
    ("unit a / open f / open g / end / end", 3), ("unit a / open f / local g / end / end", 3),
    ("unit a / open f / do / open g / end / end / end", 4),
    ("unit a / show 1 / open f / end", 2), ("unit a / end", 2), ("unit a / do / end / open f / end", 2),
    ("unit a / let x 1 / open f / end", 2), ("unit a / call x b.g / open f / end", 2),
    ("unit a / if 1 is ON / end / open f / end", 2), ("unit a / else / open f / end", 2),
    ("unit a / catch x / open f / end", 2), ("unit a / try / catch x / end / open f / end", 2),
    ("unit a / cell c ON / keep c ON / open f / end", 3),
    ("unit a / open f / end / end", 4), ("unit a / open f / end / show 1", 4), ("unit a / open f / end / else", 4),
    ("unit a / open f / end / catch x", 4), ("unit a / open f / end / give 1 / open g / end", 4),
    ("unit a / open f / end / ", 4),
]

CLOSING = [
    ("unit a / open f / else / end", 3), ("unit a / open f / catch x / end", 3), ("unit a / open f / end / end", 4),
    ("unit a / open f / if 1 is ON / else / else / end / end", 5),
    ("unit a / open f / if 1 is ON / catch x / end / end", 4),
    ("unit a / open f / if 1 is ON / else / catch x / end / end", 5),
    ("unit a / open f / while 1 is ON / else / end / end", 4),
    ("unit a / open f / while 1 is ON / catch x / end / end", 4),
    ("unit a / open f / do / else / end / end", 4), ("unit a / open f / do / catch x / end / end", 4),
    ("unit a / open f / try / else / catch x / end / end", 4), ("unit a / open f / try / end / end", 4),
    ("unit a / open f / try / show 1 / end / end", 5),
    ("unit a / open f / try / catch x / catch y / end / end", 5),
    ("unit a / open f / try / catch x / else / end / end", 5),
    ("unit a / open f / if 1 is ON / do / else / end / end / end", 5),
    ("unit a / open f / try / do / catch x / end / end / end", 5),
    ("unit a / open f / if 1 is ON / try / else / catch x / end / end / end", 5),
    ("unit a / open f / try / if 1 is ON / catch x / end / end / end", 5),
    ("unit a / open f / if 1 is ON / end / else / end / end", 5),
    ("unit a / open f / try / catch x / end / catch y / end / end", 6),
    ("unit a / open f / try / if 1 is ON / else / end / catch x / end / end", None),
    ("unit a / open f / if 1 is ON / try / catch x / end / else / end / end", None),
    ("unit a / open f / try / try / catch x / end / catch x / try / catch y / end / end / end", None),
]

MISSING = [
    ("unit a", 2), ("unit a / cell c ON", 3), ("unit a / cell c ON / cell d ON", 4), ("unit a / open f", 3),
    ("unit a / local f", 3), ("unit a / open f / show 1", 4), ("unit a / open f / do", 4),
    ("unit a / open f / do / end", 5), ("unit a / open f / if 1 is ON / else / end", 6),
    ("unit a / open f / try", 4), ("unit a / open f / try / catch x", 5), ("unit a / open f / try / catch x / end", 6),
    ("unit a / open f / while 1 is ON / show 1 / end", 6), ("unit a / open f / end / open g", 5),
    ("unit a / open f / end / local g p / show p", 6), ("unit a / open f / call x g", 4),
    ("unit a / open f / call x g / end / open h", 6),
]


class TestWhichLine(unittest.TestCase):
    def look(self, rows):
        for text, line in rows:
            with self.subTest(text):
                self.assertEqual(bad_line(text), line)

    def test_first_wrong_line(self):
        self.look(FIRST_WRONG)

    def test_lines_at_other_places(self):
        self.look(OTHER_PLACES)

    def test_lines_that_close_parts(self):
        self.look(CLOSING)

    def test_missing_lines(self):
        self.look(MISSING)

    def test_each_beginning_of_a_unit_lacks_a_line(self):
        text = ("unit a / cell c ON / open f p / try / if p is ON / show p / else / while p < 1 / do / raise p / end"
                " / end / end / catch e / show e / end / end / local g / give 1 / end")
        rows = text.split(" / ")
        whole = [rows.index("local g"), len(rows)]
        for many in range(1, len(rows) + 1):
            expected = None if many in whole else many + 1
            self.assertEqual(bad_line(" / ".join(rows[:many])), expected)

    def test_sixty_lines_and_deep_blocks(self):
        many = "unit a / open f / " + "show 1 / " * 57 + "end"
        self.assertIsNone(bad_line(many))
        for word, close in (("do", ["end"]), ("while 1 < 2", ["end"]), ("if 1 is ON", ["else", "end"]),
                            ("try", ["catch x", "end"])):
            for deep in (6, 40):
                rows = ["unit a", "open f"] + [word] * deep + close * deep + ["end"]
                with self.subTest(word, deep=deep):
                    self.assertIsNone(bad_line("\n".join(rows)))
                    self.assertEqual(bad_line("\n".join(rows[:-1])), len(rows))


if __name__ == "__main__":
    unittest.main()

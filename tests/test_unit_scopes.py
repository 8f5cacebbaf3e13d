"""Where names are in scope, and which may be declared."""

import unittest

from tests.helper import bad_line

INSIDE = "unit a / cell c ON / open f p q / {} / end"
FRAMED = 4

RIGHT = [
    "let x 1 / show x", "let x p / let y x", "let x 1 / do / show x / end / show x", "let x 1 / set x x",
    "if p is ON / let x 1 / show x / else / let x 2 / show x / end", "if p is ON / let x 1 / else / get x c / end",
    "if p is ON / let x 1 / end / let x 2 / show x", "do / let x 1 / end / do / let x 2 / end / let x 3",
    "while p is ON / let x 1 / end / while q is ON / let x 1 / end", "try / let x 1 / catch e / let x 2 / end",
    "try / let e 1 / show e / catch e / show e / end", "try / catch e / end / try / catch e / show e / end",
    "try / catch e / end / let e 1", "try / call e v.g / catch e / set e 1 / end",
    "try / do / let e 1 / end / catch e / end", "let x 1 / while x < 9 / set x x + 1 / end",
    "let x 1 / if x is ON / set x 2 / else / set x 3 / end / show x", "call x v.g p q / show x / set x p",
    "get x c / show x / set x 1 / keep c x", "let x p / let y x + x / let z y * q",
    "try / try / let e 1 / catch e / show e / end / catch e / show e / end",
    "let f 1 / show f", "let a 1 / show a", "if p is ON / let x 1 / else / show q / end / let x q",
    "do / do / do / let x 1 / end / let x 2 / end / let x 3 / end / let x 4",
]

WRONG = [
    ("let x x", 0), ("let x 1 + x", 0), ("show x / let x 1", 0), ("call x v.g x", 0),
    ("let x 1 / let x 2", 1), ("let x 1 / get x c", 1), ("let x 1 / call x v.g", 1), ("get x c / let x 1", 1),
    ("call x v.g / call x v.g", 1), ("let x 1 / try / catch x / end", 2), ("get x c / try / catch x / end", 2),
    ("let p 1", 0), ("get p c", 0), ("call p v.g", 0), ("try / catch p / end", 1), ("do / let q 1 / end", 1),
    ("let c 1", 0), ("get c c", 0), ("call c v.g", 0), ("try / catch c / end", 1), ("do / let c 1 / end", 1),
    ("set p 1", 0), ("set q q + 1", 0), ("do / set p ON / end", 1), ("set c 1", 0), ("set x 1", 0), ("set f 1", 0),
    ("do / let x 1 / end / show x", 3), ("do / let x 1 / end / set x 1", 3),
    ("if p is ON / let x 1 / end / give x", 3), ("if p is ON / let x 1 / else / show x / end", 3),
    ("if p is ON / else / let x 1 / end / show x", 4), ("if p is ON / let x 1 / else / set x 1 / end", 3),
    ("while p is ON / let x 1 / end / show x", 3), ("while x is ON / let x 1 / end", 0),
    ("while 1 < x / let x 1 / end", 0), ("if x is ON / let x 1 / end", 0),
    ("try / let x 1 / catch e / show x / end", 3), ("try / let x 1 / catch e / end / show x", 4),
    ("try / catch e / let x 1 / end / show x", 4), ("try / catch e / end / show e", 3),
    ("try / show e / catch e / end", 1), ("try / catch e / let e 1 / end", 2), ("try / catch e / do / get e c / end / end", 3),
    ("let x 1 / do / let x 2 / end", 2), ("do / let x 1 / do / let x 2 / end / end", 3),
    ("let x 1 / if p is ON / else / let x 2 / end", 3), ("let x 1 / try / let x 2 / catch e / end", 2),
    ("try / catch e / try / catch e / end / end", 3), ("try / try / catch e / end / show e / catch e / end", 4),
    ("try / let x 1 / try / catch x / end / catch e / end", 3),
    ("if p is ON / let x 1 / else / let y x / end", 3), ("get x p", 0), ("get x f", 0), ("get x a", 0),
    ("let x 1 / get y x", 1), ("keep p 1", 0), ("keep f 1", 0), ("let x 1 / keep x 1", 1), ("get x d", 0),
    ("keep d 1", 0), ("show c", 0), ("let x c", 0), ("keep c c", 0), ("if c is ON / end", 0), ("give c", 0),
    ("raise c", 0), ("call x v.g c", 0), ("while c < 1 / end", 0), ("let x 1 / let y x + z", 1),
]

ALIKE = [
    ("unit a / cell a ON / open a / get x a / keep a x / end", None),
    ("unit a / cell f ON / open f / end", None),
    ("unit a / cell f ON / local f / end / open g / call x f / end", None),
    ("unit a / cell b ON / open f / call x b.b / end", None),
    ("unit a / cell f ON / open f / let f 1 / end", 4),
    ("unit a / open f / let f 1 / set f 2 / end", None),
    ("unit a / local g / end / open f / call g g / show g / end", None),
    ("unit a / cell c ON / cell c ON / open f / end", 3),
    ("unit a / open f p p / end", 2),
    ("unit a / open f p q q / end", 2),
    ("unit a / open f / end / open f / end", 4),
    ("unit a / open f / end / local f p / end", 4),
    ("unit a / cell c ON / open f p c / end", 3),
    ("unit a / open f p / end / open g p / end", None),
    ("unit a / open f p / end / open g / show p / end", 5),
    ("unit a / open f / let x 1 / end / open g / let x 2 / end", None),
    ("unit a / open f / let x 1 / end / open g / show x / end", 6),
    ("unit a / open f / let x 1 / end / open g x / set x 1 / end", 6),
    ("unit a / open f x / end / open g / let x 1 / set x 2 / end", None),
]


class TestScopes(unittest.TestCase):
    def test_right(self):
        for text in RIGHT:
            with self.subTest(text):
                self.assertIsNone(bad_line(INSIDE.format(text)))

    def test_wrong(self):
        for text, behind in WRONG:
            with self.subTest(text):
                self.assertEqual(bad_line(INSIDE.format(text)), FRAMED + behind)

    def test_alike_names(self):
        for text, line in ALIKE:
            with self.subTest(text):
                self.assertEqual(bad_line(text), line)

    def test_parts_beside_one_another(self):
        for block in ("do / {} / end", "if p is ON / {} / end", "while p is ON / {} / end",
                      "if p is ON / else / {} / end", "try / {} / catch e / end", "try / catch e / {} / end"):
            for name in ("let x 1", "get x c", "call x v.g"):
                text = block.format(name)
                with self.subTest(text):
                    self.assertIsNone(bad_line(INSIDE.format(text + " / " + text + " / " + name + " / show x")))
                    lines = len(text.split(" / "))
                    self.assertEqual(bad_line(INSIDE.format(text + " / show x")), FRAMED + lines)
                    self.assertIsNotNone(bad_line(INSIDE.format(name + " / " + text)))


if __name__ == "__main__":
    unittest.main()

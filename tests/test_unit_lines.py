"""The forms of the lines of a unit: right ones, and wrong ones of every kind."""

import unittest

from hungfacts.errors import BadUnit, BadWords
from hungfacts.units import Unit, is_words
from tests.helper import WORDS, bad_line, unit

# Each statement here stands at line 4, behind lines that declare cell c, parameters p and q, and a
# local function g (two parameters) is there.
FRAME = "unit a / cell c ON / open f p q / {} / end / local g r s / end"
FRAMED = 4

STATEMENTS = [
    "let x p", "let x ON", "let x NONE", "let x BAD", "let x 0", "let x -1", "let x 999999999", "let x -999999999",
    "let x p + q", "let x p - 1", "let x 2 * ON", "let x -5 - -5", "let a q", "let f q", "let g q", "let end 1",
    "let let 1", "let z9 1", "let abcdef 1", "let a12345 1", "let is p",
    "call x g p q", "call x g ON 5", "call x v.g", "call x v.g p", "call x v.g p ON", "call x v.g p 1 NONE",
    "call a b.a", "call end end.end p", "call x z.f", "call x g g g",
    "get x c", "get f c", "keep c p", "keep c ON", "keep c -7", "keep c BAD",
    "show p", "show ON", "show 12", "give p", "give NONE", "give -3", "raise q", "raise BAD", "raise 0",
    "let x 1 / set x p", "let x 1 / set x x + x", "get x c / set x ON", "call x v.g / set x x",
    "if p is ON / end", "if p is NONE / end", "if ON is BAD / end", "if 5 is ON / end", "if p < q / end",
    "if 1 < -1 / end", "if ON < p / end", "if p is ON / else / end", "if p is ON / show p / else / show q / end",
    "let is 1 / if is is ON / end", "let is 1 / if is < is / end",
    "while p is ON / end", "while p < 3 / show p / end", "while ON is ON / end",
    "try / catch x / end", "try / raise p / catch x / show x / end", "try / catch f / set f 1 / end",
    "do / end", "do / show p / end", "do / do / do / end / end / end",
]

WRONG_STATEMENTS = [
    "", " ", "x", "ON", "1", "p", "print p", "Let x p", "LET x p", "lets x p",
    "let", "let x", "let x p p", "let x p +", "let x p + q q", "let x + q", "let x p / q", "let x p ++ q",
    "let x p +- q", "let x p is q", "let ON p", "let 1 p", "let X p", "let x1x p +1", "let x c", "let x x", "let x y",
    "let x y + p", "let x p + y", "let x OFF + p", "let x p + OFF",
    "let x c + p", "let x 01 * p", "let x p * 01", "let x + + p", "let x OFF", "let x on", "let x ONE", "let c 1", "let p 1", "let x p+q",
    "set", "set p", "set x p", "set p 1", "set p p + 1", "set ON p", "set c 1", "set 1 1", "set f 1",
    "call", "call x", "call x g p q q q", "call x v.g p q p q", "call g p q", "call x g,p", "call x G p q",
    "call x v.G", "call x V.g", "call x .g", "call x v.", "call x .", "call x v..g", "call x v.g.h", "call x v .g",
    "call x v:g", "call p g p q", "call c g p q", "call ON g p q", "call x v.g y", "call x v.g OFF", "call x v.g 01",
    "call x v.toolong", "call x toolong", "call x 1g", "call x v.1g", "call x ON", "call x 5", "call x a.f p q", "call x a.h",
    "get", "get x", "get x c c", "get x p", "get x d", "get x ON", "get c c", "get p c", "get x 1", "get x c.c",
    "keep", "keep c", "keep c p q", "keep d p", "keep p p", "keep c d", "keep c c", "keep c OFF", "keep ON c",
    "keep c p + q",
    "show", "show p q", "show x", "show c", "show OFF", "show p + q", "show 01", "show +1",
    "give", "give p q", "give x", "give c", "give OFF", "give p + q", "raise", "raise p q", "raise x", "raise c",
    "raise OFF",
    "if", "if p", "if p is", "if p is ON ON", "if p is p", "if p is 1", "if p is OFF", "if p is on", "if p ON",
    "if x is ON", "if c is ON", "if p = ON", "if p == ON", "if p > q", "if p <= q", "if p < x", "if p < c", "if p <",
    "if < q", "if p < q < q", "if is ON", "if p IS ON", "if not p is ON",
    "while", "while p", "while p is", "while p is p", "while p is 1", "while p < x", "while x < p", "while p < q q",
    "while p > q", "while ON", "while p IS ON",
    "try p", "try / catch / end", "try / catch x y / end", "try / catch p / end", "try / catch c / end",
    "try / catch ON / end", "try / catch 1 / end", "do p", "do / end p", "else", "else p", "catch x", "catch",
    "if p is ON / else p / end",
    "let  x p", "let x  p", " let x p", "let x p ", "let\tx p", "let x\tp", "let x p\t", "\tlet x p", "let x p\r",
    "let x p\u00a0+ q", "let x p\x0b", "let x \u0661", "let x 1\u00b2", "let \u00e4 1", "show  p", "do ", " do",
    "end  ", " end",
]

# Where the wrong line is not the first one of the statement.
LATER = {
    "try / catch / end": 5, "try / catch x y / end": 5, "try / catch p / end": 5, "try / catch c / end": 5,
    "try / catch ON / end": 5, "try / catch 1 / end": 5, "do / end p": 5, "if p is ON / else p / end": 5,
    "let x p / q": 5, "let x 1 / set x": 5, "let x 1 / set x y": 5, "let x 1 / set x c": 5, "let x 1 / set x OFF": 5,
    "let x 1 / set x p q": 5, "let x 1 / set x p +": 5, "let x 1 / set x p + y": 5, "let x 1 / set x y + p": 5,
    "let x 1 / set x p + q q": 5, "let x 1 / set x p // q": 5, "let x 1 / set x p % q": 5, "let x 1 / set X p": 5,
}

RIGHT_HEADS = [
    "unit a / open f / end", "unit abcdef / open f / end", "unit a12345 / open f / end", "unit end / open f / end",
    "unit unit / open unit / end", "unit a / local f / end", "unit a / open f p / end", "unit a / open f p q r / end",
    "unit a / local f p q r / end", "unit a / open open open / end", "unit a / cell c ON / open f / end",
    "unit a / cell c NONE / cell d BAD / cell a ON / open a / end", "unit a / cell cell ON / open cell / end",
    "unit a / cell c ON / open c p / end", "unit a / open f f / end", "unit a / open f p / end / open g p / end",
    "unit a / open f / end / local g / end / open h / end",
]

WRONG_HEADS = [
    ("", 1), ("unit", 1), ("unit a b / open f / end", 1), ("unit  a / open f / end", 1), (" unit a / open f / end", 1),
    ("unit a  / open f / end", 1), ("unit A / open f / end", 1), ("unit 1a / open f / end", 1), ("unit 1", 1),
    ("unit abcdefg / open f / end", 1), ("unit a_b / open f / end", 1), ("unit a.b / open f / end", 1),
    ("unit ON / open f / end", 1), ("Unit a / open f / end", 1), ("open f / end", 1), ("cell c ON / open f / end", 1),
    ("\nunit a / open f / end", 1), ("unit \u00e4 / open f / end", 1), ("unit a\r / open f / end", 1),
    ("unit a /  / open f / end", 2), ("unit a / cell / open f / end", 2), ("unit a / cell c / open f / end", 2),
    ("unit a / cell c ON ON / open f / end", 2), ("unit a / cell c 1 / open f / end", 2),
    ("unit a / cell c OFF / open f / end", 2), ("unit a / cell c on / open f / end", 2),
    ("unit a / cell ON ON / open f / end", 2), ("unit a / cell C ON / open f / end", 2),
    ("unit a / cell c  ON / open f / end", 2), ("unit a / cell abcdefg ON / open f / end", 2),
    ("unit a / cell c ON / cell c ON / open f / end", 3), ("unit a / cell c ON / cell c BAD / open f / end", 3),
    ("unit a / cell c c / open f / end", 2),
    ("unit a / open / end", 2), ("unit a / local / end", 2), ("unit a / open f p q r s / end", 2),
    ("unit a / local f p q r s / end", 2), ("unit a / open F / end", 2), ("unit a / open ON / end", 2),
    ("unit a / open f P / end", 2), ("unit a / open f 1 / end", 2), ("unit a / open f ON / end", 2),
    ("unit a / open f p p / end", 2), ("unit a / open f p q p / end", 2), ("unit a / local f p p / end", 2),
    ("unit a / open f  / end", 2), ("unit a / open  f / end", 2), ("unit a / open f abcdefg / end", 2),
    ("unit a / open abcdefg / end", 2), ("unit a / Open f / end", 2), ("unit a / closed f / end", 2),
    ("unit a / cell c ON / open f c / end", 3), ("unit a / cell c ON / local f p c / end", 3),
    ("unit a / open f / end / open f / end", 4), ("unit a / open f / end / local f / end", 4),
    ("unit a / local f / end / open f p / end", 4), ("unit a / local f / end / local f / end", 4),
    ("unit a / open f.g / end", 2), ("unit a / open f p.q / end", 2),
]

NUMERALS = ["0", "1", "9", "10", "-1", "-10", "999999999", "-999999999", "100000000", "5"]
NO_NUMERALS = ["-0", "00", "01", "007", "-01", "-00", "--1", "-", "+1", "1000000000", "-1000000000", "0000000000",
               "1-", "1.0", "1e3", "0x1", "1_0", "\u0661", "\u00b2", "1 ", "\uff11"]
NAMES = ["a", "z", "a0", "z9", "abcdef", "a12345", "zzzzzz", "a00000", "unit", "cell", "open", "local", "let", "set",
         "call", "get", "keep", "show", "give", "raise", "if", "is", "else", "end", "while", "try", "catch", "do",
         "none", "bad", "on", "num", "x0"]
NO_NAMES = ["abcdefg", "a123456", "A", "aB", "0a", "9", "-a", "a-b", "a_b", "_a", "a.b", "\u00e4", "a\u00e4", "", "ON",
            "NONE", "a\u0661", "\uff41"]


class TestStatements(unittest.TestCase):
    def test_right(self):
        for text in STATEMENTS:
            with self.subTest(text):
                whole = FRAME.format(text)
                if text == "call x g g g":
                    whole = "unit a / open f g q / call x g g g / end / local g r s / end"
                self.assertIsNone(bad_line(whole))

    def test_wrong(self):
        for text in WRONG_STATEMENTS + list(LATER):
            with self.subTest(repr(text)):
                self.assertEqual(bad_line(FRAME.format(text)), LATER.get(text, FRAMED))

    def test_division(self):
        for statement in ("let x p / q", "let x p // q", "let x p % q", "let x p ** q"):
            with self.subTest(statement):
                with self.assertRaises(BadUnit) as caught:
                    Unit(WORDS, f"unit a\nopen f p q\n{statement}\nend")
                self.assertEqual(caught.exception.line, 3)

    def test_wrong_ones_in_parts(self):
        for text in WRONG_STATEMENTS:
            if text in LATER or text in ("else", "catch x"):
                continue
            for block in ("if p is ON / {} / end", "while p is ON / {} / end", "do / {} / end",
                          "try / {} / catch z / end"):
                with self.subTest(repr(text), block=block):
                    self.assertEqual(bad_line(FRAME.format(block.format(text))), 5)


class TestHeads(unittest.TestCase):
    def test_right(self):
        for text in RIGHT_HEADS:
            with self.subTest(text):
                self.assertIsNone(bad_line(text))

    def test_wrong(self):
        for text, line in WRONG_HEADS:
            with self.subTest(repr(text)):
                self.assertEqual(bad_line(text), line)

    def test_line_feed_at_the_end(self):
        self.assertEqual(bad_line("unit a / open f / end\n"), 4)
        self.assertEqual(bad_line("unit a\n"), 2)
        self.assertEqual(bad_line("\n"), 1)

    def test_other_ends_of_lines(self):
        self.assertEqual(bad_line("unit a\r\nopen f\r\nend"), 1)
        self.assertEqual(bad_line("unit a\ropen f\rend"), 1)
        self.assertEqual(bad_line("unit a\x0bopen f\x0bend"), 1)
        self.assertEqual(bad_line("unit a\nopen f\n\nend"), 3)
        self.assertEqual(bad_line("unit a\nopen f\nend "), 3)


class TestNamesAndNumerals(unittest.TestCase):
    def test_each_sign(self):
        small, digits, great = "abcdefghijklmnopqrstuvwxyz", "0123456789", "ABCDEFGHIJKLMNOPQRSTUVWXYZ"
        for sign in [chr(at) for at in range(256) if chr(at) != "\n"]:
            with self.subTest(repr(sign)):
                named = None if sign in small + digits else 3
                self.assertEqual(bad_line(f"unit a / open f / let a{sign} 1 / end"), named)
                first = None if sign in small else 3
                self.assertEqual(bad_line(f"unit a / open f / let {sign}a 1 / end"), first)
                counted = None if sign in digits else 3
                self.assertEqual(bad_line(f"unit a / open f / give 1{sign} / end"), counted)
                self.assertEqual(bad_line(f"unit a / open f / give {sign}1 / end"), None if sign in "-123456789" else 3)
                self.assertIs(is_words((sign,)), sign in great)
                self.assertIs(is_words(("A" + sign,)), sign in great)

    def test_numerals(self):
        for text in NUMERALS:
            with self.subTest(text):
                self.assertIsNone(bad_line(f"unit a / open f / give {text} / end"))
        for text in NO_NUMERALS:
            with self.subTest(repr(text)):
                self.assertEqual(bad_line(f"unit a / open f / give {text} / end"), 3)

    def test_names(self):
        for name in NAMES:
            with self.subTest(name):
                self.assertIsNone(bad_line(f"unit a / open f / let {name} 1 / set {name} {name} / end"))
                self.assertIsNone(bad_line(f"unit a / open f {name} / if {name} is ON / end / end"))
                self.assertIsNone(bad_line(f"unit a / cell {name} ON / open f / keep {name} BAD / end"))
                self.assertIsNone(bad_line(f"unit {name} / open {name} / call x y{name[:3]}.{name} / end"))
        for name in NO_NAMES:
            with self.subTest(repr(name)):
                self.assertEqual(bad_line(f"unit a / open f / let {name} 1 / end"), 3)
                self.assertEqual(bad_line(f"unit a / open f {name} / end"), 2)
                self.assertEqual(bad_line(f"unit a / cell {name} ON / open f / end"), 2)
                self.assertEqual(bad_line(f"unit {name} / open f / end"), 1)
                self.assertEqual(bad_line(f"unit a / open {name} / end"), 2)
                self.assertEqual(bad_line(f"unit a / open f / call x {name} / end"), 3)
                self.assertEqual(bad_line(f"unit a / open f / call x {name}.g / end"), 3)
                self.assertEqual(bad_line(f"unit a / open f / call x b.{name} / end"), 3)

    def test_words_of_the_unit_alone(self):
        text = "unit a / cell c OFF / open f / give OFF / end"
        self.assertEqual(bad_line(text, ("ON",)), 2)
        self.assertIsNone(bad_line(text, ("ON", "OFF")))
        self.assertEqual(bad_line("unit a / open f / give ON / end", ("OFF",)), 3)
        self.assertEqual(bad_line("unit a / open f p / if p is OFF / end / end", ("ON",)), 3)
        self.assertIsNone(bad_line("unit a / open f p / if p is NUM / end / end", ("NUM",)))


class TestWrongArguments(unittest.TestCase):
    def test_words(self):
        for value in (None, (), "ON", ["ON"], ("NONE",), ("ON", "ON"), ("A", "B", "C", "D"), 7, {"ON": 1}, ("on",),
                      unit("unit a / open f / end")):
            for text in ("unit a\nopen f\nend", "wrong", None, 7, ["unit a"]):
                with self.subTest(repr(value), text=text):
                    with self.assertRaises(BadWords) as caught:
                        Unit(value, text)
                    self.assertIs(caught.exception.value, value)

    def test_text(self):
        for value in (None, 0, True, (), ["unit a", "open f", "end"], ("unit a", "open f", "end"), {},
                      b"unit a\nopen f\nend", unit("unit a / open f / end")):
            with self.subTest(repr(value)):
                with self.assertRaises(BadUnit) as caught:
                    Unit(WORDS, value)
                self.assertEqual(caught.exception.line, 0)

    def test_by_name(self):
        self.assertEqual(Unit(text="unit a\nopen f\nend", words=WORDS), unit("unit a / open f / end"))
        with self.assertRaises(BadWords) as caught:
            Unit(text=None, words=None)
        self.assertIsNone(caught.exception.value)


if __name__ == "__main__":
    unittest.main()

import unittest

from hungfacts.units import Unit, is_words
from tests.helper import unit

RIGHT = [("ON",), ("A",), ("ABCDEF",), ("ON", "OFF"), ("OFF", "ON"), ("A", "B", "C"), ("NON", "BA"), ("Z", "AZ", "NONES"),
         ("NUM",)]
WRONG = [
    (), ("A", "B", "C", "D"), ("ON", "ON"), ("A", "B", "A"), ("NONE",), ("BAD",), ("ON", "NONE"), ("BAD", "ON"),
    ("on",), ("On",), ("ON", "oFF"), ("O1",), ("O N",), ("ON ",), (" ON",), ("O-N",), ("O.N",), ("ON\n",), ("",),
    ("ON", ""), ("ABCDEFG",), ("ON", "ABCDEFG"), ("\u00c4",), ("\uff21",), ("\u0391",), ("num",),
    ["ON"], "ON", "", 0, 1, -1, True, False, None, {}, {"ON": "ON"}, [], (1,), (True,), (None,), ("ON", 1),
    (("ON",),), (["ON"],), ({"ON": 1},), ("ON", ("OFF",)), ((), ()), ([], []), (b"ON",),
    (unit("unit a / open f / end"),), unit("unit a / open f / end"),
]


class TestIsWords(unittest.TestCase):
    def test_right(self):
        for value in RIGHT:
            with self.subTest(value=value):
                self.assertIs(is_words(value), True)
                self.assertIs(is_words(value=value), True)

    def test_wrong(self):
        for value in WRONG:
            with self.subTest(value=repr(value)):
                self.assertIs(is_words(value), False)

    def test_deep_value(self):
        deep = "ON"
        for _ in range(30):
            deep = (deep,)
        self.assertIs(is_words(deep), False)

    def test_units_have_right_words(self):
        for words in RIGHT:
            self.assertEqual(Unit(words, "unit a\nopen f\nend").words, words)


if __name__ == "__main__":
    unittest.main()

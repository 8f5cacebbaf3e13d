import unittest

from hungfacts import errors
from hungfacts.errors import HungError
from hungfacts.units import Unit

KEPT = {
    "BadWords": "value", "BadUnit": "line", "BadUnits": "value", "BadRoots": "value",
    "NoFunction": "call", "NoUnit": "value", "NoRoot": "value", "BadValues": "value",
    "BadCount": "value", "BadOrder": "value", "BadInputs": "value", "NoRoom": "title",
    "BadBudget": "value", "BadQuestion": "value", "NoLine": "value", "NoName": "value",
    "Barred": "bars", "NoRun": "value", "BadTexts": "value", "BadDrops": "value",
    "NotAnew": "value", "BadFact": "value", "BadText": "line", "BadStored": "value",
    "BadLine": "value",
}
BARE = ("NotEditions", "Ended", "Endless", "NothingToUndo", "NothingToRedo", "OtherWords")
VALUES = (0, -3, True, None, "", "ON", (), ("ON", ["x"]), [1, (2,)], {"a": [None]}, Unit(("ON",), "unit a\nopen f\nend"))


class TestErrors(unittest.TestCase):
    def test_all_are_there_and_no_others(self):
        there = {name for name, value in vars(errors).items() if isinstance(value, type)}
        self.assertEqual(there, {"HungError"} | set(KEPT) | set(BARE))

    def test_bases(self):
        self.assertEqual(HungError.__bases__, (ValueError,))
        for name in list(KEPT) + list(BARE):
            with self.subTest(name):
                self.assertEqual(getattr(errors, name).__bases__, (HungError,))

    def test_defined_in_this_file(self):
        for name in ["HungError"] + list(KEPT) + list(BARE):
            self.assertEqual(getattr(errors, name).__module__, "hungfacts.errors")

    def test_keep_by_position_and_by_name(self):
        for name, kept in KEPT.items():
            made = getattr(errors, name)
            for value in VALUES:
                with self.subTest(name, value=repr(value)):
                    self.assertIs(getattr(made(value), kept), value)
                    self.assertIs(getattr(made(**{kept: value}), kept), value)

    def test_keep_needs_one_value_of_its_name(self):
        for name, kept in KEPT.items():
            made = getattr(errors, name)
            with self.subTest(name):
                self.assertRaises(TypeError, made)
                self.assertRaises(TypeError, made, 1, 2)
                self.assertRaises(TypeError, made, **{kept + "x": 1})

    def test_without_argument(self):
        for name in BARE:
            with self.subTest(name):
                self.assertIsInstance(getattr(errors, name)(), HungError)

    def test_are_caught_as_their_bases(self):
        for name, kept in KEPT.items():
            for base in (HungError, ValueError):
                with self.subTest(name, base=base.__name__):
                    with self.assertRaises(base) as caught:
                        raise getattr(errors, name)(7)
                    self.assertEqual(getattr(caught.exception, kept), 7)


if __name__ == "__main__":
    unittest.main()

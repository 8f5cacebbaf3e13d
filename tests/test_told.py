"""What a Stepper tells of names and cells."""

import unittest

from hungfacts.errors import Ended, NoName
from tests.helper import program, unit
from tests.kinds import KINDS
from tests.test_stepping import CALLER, LOOP, ROOT, SMALL, StepTest, WORDS, places, properties

GONE = ("gone",)


def has(value):
    return ("is", value)


class TestTold(StepTest):
    def told(self, stepper, names):
        """What is told of some names, those told first."""
        return [stepper.told(name) for name in names.split(" ")]

    def test_three_ways(self):
        text = "unit a / open f p q / let x p / let y q / let z ON / show z / show x / end"
        stepper = self.begin((text,), (7, "OFF"))
        stepper.until("a", 6)
        # z is only ever ON, x is needed, y is left out.
        self.assertEqual(self.told(stepper, "x y z p q"), [has(7), GONE, has("ON"), has(7), GONE])
        self.assertEqual(dict(stepper.state()[1][0]), {"x": has(7), "y": GONE, "z": has("ON"), "p": has(7), "q": GONE})

    def test_one_word_goes_ahead_of_being_needed(self):
        # Nobody needs z, but there is only one word that it can be.
        stepper = self.begin(("unit a / open f p / let z OFF / show p / end",), (7,))
        self.assertEqual(stepper.places, (("a", 4),))
        self.assertEqual(stepper.told("z"), has("OFF"))
        # num is no word.
        stepper = self.begin(("unit a / open f p / let z 3 / show p / end",), (7,))
        self.assertEqual(stepper.told("z"), GONE)

    def test_parameters(self):
        texts = ("unit a / open f p / call x b.g p ON 3 / show p / end", "unit b / open g p q r / show q / if p is ON / show 1 / end / end")
        stepper = self.begin(texts, (7,))
        stepper.until("b", 4)
        self.assertEqual(self.told(stepper, "p q r"), [has(7), has("ON"), GONE])
        self.assertEqual(stepper.state()[1], ((("p", has(7)), ("q", has("ON")), ("r", GONE)), (("p", has(7)),)))

    def test_values_change(self):
        stepper = self.begin((LOOP,), (2,))
        self.assertEqual(stepper.state()[1], ((("p", has(2)),),))
        found = []
        while stepper.until("a", 5):
            found.append(stepper.told("n"))
            stepper.step()
            found.append(stepper.told("n"))
        self.assertEqual(found, [has(0), has(1), has(1), has(2)])

    def test_scopes(self):
        text = ("unit a / open f p / if p is ON / let x 1 / show x / else / let y p / show y / end / try / let y 2 / raise y"
                " / catch x / show x / end / show p / end")
        stepper = self.begin((text,), ("ON",))
        self.assertRaises(NoName, stepper.told, "x")
        stepper.step()
        # Ahead of its own line a name is not in scope.
        self.assertRaises(NoName, stepper.told, "x")
        stepper.step()
        self.assertEqual(stepper.told("x"), has(1))
        self.assertRaises(NoName, stepper.told, "y")
        stepper.step()
        self.assertEqual(stepper.places, places("a:10"))
        for name in ("x", "y"):
            self.assertRaises(NoName, stepper.told, name)
        stepper.until("a", 14)
        # x is 1 or BAD, as facts take it for one name.
        self.assertEqual(stepper.told("x"), has("BAD"))
        self.assertRaises(NoName, stepper.told, "y")
        stepper.step()
        self.assertEqual(stepper.state()[1], ((("p", has("ON")),),))
        self.assertRaises(NoName, stepper.told, "x")

    def test_name_of_a_call(self):
        stepper = self.begin((CALLER, SMALL), (4,))
        self.assertRaises(NoName, stepper.told, "x")
        stepper.step()
        self.assertEqual(stepper.state()[1], ((("p", has(4)),), (("p", has(4)),)))
        self.assertRaises(NoName, stepper.told, "x")
        stepper.until("a", 4)
        self.assertEqual(self.told(stepper, "x p"), [has(8), has(4)])

    def test_bodies_that_were_put_in(self):
        for budget in (0, 1):
            stepper = self.begin((CALLER, SMALL), (4,), budget=budget)
            stepper.until("b", 4)
            self.assertEqual(self.told(stepper, "y p"), [has(8), has(4)])
            self.assertEqual(stepper.state(), (places("b:4 a:3"), ((("p", has(4)), ("y", has(8))), (("p", has(4)),)), ()))
            self.assertRaises(NoName, stepper.told, "x")
            self.assertRaises(NoName, stepper.told, "x0")

    def test_parameter_of_a_body_that_only_one_word_can_be(self):
        texts = ("unit a / open f q / call x b.g ON q / show x / end", "unit b / open g p q / show p / let r q / give p / end")
        for budget in (0, 1):
            stepper = self.begin(texts, (4,), budget=budget)
            stepper.until("b", 5)
            self.assertEqual(self.told(stepper, "p q"), [has("ON"), GONE])
            self.assertEqual(stepper.places, places("b:5 a:3"))

    def test_frames_further_out(self):
        texts = ("unit a / open f p / let u p / let v 5 / call x b.g p / show u / end",
                 "unit b / open g p / let w p + 1 / call y c.h w / show w / end", "unit c / open h p / show 1 / show 2 / end")
        for budget in (0, 1, 2):
            stepper = self.begin(texts, (4,), budget=budget)
            stepper.until("c", 4)
            self.assertEqual(stepper.places, places("c:4 b:4 a:5"))
            self.assertEqual(stepper.state()[1], ((("p", GONE),), (("p", has(4)), ("w", has(5))),
                                                  (("p", has(4)), ("u", has(4)), ("v", GONE))))

    def test_recursion(self):
        text = "unit a / open f p / call x l p / end / local l n / if n < 1 / give 0 / end / let m n - 1 / call x l m / show n / end"
        stepper = self.begin((text,), (2,))
        stepper.until("a", 7)
        self.assertEqual([dict(names).get("n") for names in stepper.state()[1]], [has(0), has(1), has(2), None])

    def test_cells(self):
        a = "unit a / cell c ON / cell d ON / open f p / keep c p / keep d p / get x c / show x / call y b.g p / end"
        b = "unit b / cell c OFF / open g p / get x c / keep c p / show x / end"
        stepper = self.begin((b, a), (3,))
        self.assertEqual(stepper.state()[2], (("a", "c", has("ON")), ("a", "d", GONE), ("b", "c", has("OFF"))))
        stepper.step()
        self.assertEqual(stepper.state()[2], (("a", "c", has(3)), ("a", "d", GONE), ("b", "c", has("OFF"))))
        stepper.until("b", 6)
        self.assertEqual(stepper.state()[2], (("a", "c", has(3)), ("a", "d", GONE), ("b", "c", has(3))))
        stepper.back()
        self.assertEqual(stepper.state()[2][2], ("b", "c", has("OFF")))

    def test_cell_that_only_one_word_can_be(self):
        # Of cells no question asks for the word: who reads it is told its value.
        stepper = self.begin(("unit a / cell c ON / open f / get x c / show x / end",))
        self.assertEqual(stepper.state()[2], (("a", "c", has("ON")),))


class TestErrors(StepTest):
    def test_no_name(self):
        stepper = self.begin(("unit a / cell c ON / open f p / let x p / show x / end / open g q / end", SMALL), (4,))
        stepper.step()
        for value in KINDS + ("0", "q", "c", "f", "y", "ON", "4", "P", "p ", ("p",), ["p"]):
            told = properties(stepper)
            with self.assertRaises(NoName) as caught:
                stepper.told(value)
            self.assertIs(caught.exception.value, value)
            self.assertEqual(properties(stepper), told)
        self.assertEqual(stepper.told(name="p"), has(4))

    def test_ended(self):
        stepper = self.begin(("unit a / open f p / show p / end",), (4,))
        stepper.step()
        for name in ("p", "q", None, [1]):
            self.assertRaises(Ended, stepper.told, name)
        self.assertRaises(Ended, stepper.state)
        stepper.back()
        self.assertEqual(stepper.state(), (places("a:3"), ((("p", has(4)),),), ()))

    def test_units_as_values(self):
        stepper = self.begin(("unit a / open f p / show p / end",), (4,))
        self.assertRaises(NoName, stepper.told, unit("unit a / open f / end"))
        self.assertRaises(NoName, stepper.told, program(("unit a / open f / end",), (ROOT,), WORDS))


if __name__ == "__main__":
    unittest.main()

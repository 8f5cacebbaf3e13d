"""Putting in bodies of small functions, by hand."""

import unittest

from hungfacts.making import made
from hungfacts.questions import answer
from tests.helper import program, spread
from tests.test_making import MadeTest

ROOTS = (("a", "f"),)
B = "unit b / open g p / show p / give p / end"


class TestPut(MadeTest):
    def put(self, text, b, expected, budget=99, params="p", other=(), name="a"):
        """What a body of f of the unit a is made into with a unit b."""
        found = self.made((f"unit a / open f {params} / {text} / end", b, *other), name, budget=budget)
        self.assertEqual(found.text, spread(f"unit a / open f {params} / {expected} / end"))
        return found

    def asked(self, found):
        return [" ".join(map(str, question)) for question, _ in found.asked]

    def test_section_12(self):
        texts = ("unit a / open f q / call x b.g q / show x / end", B)
        found = self.made(texts, budget=1)
        self.assertEqual(found.text, spread("unit a / open f q / let x0 q / show x0 / let x x0 / show x / end"))
        self.assertEqual(found.origins, ((("a", 1),), (("a", 2),), (("a", 3),), (("b", 3), ("a", 3)), (("b", 4), ("a", 3)),
                                         (("a", 4),), (("a", 5),)))
        self.assertEqual(self.asked(found), [
            "called a f", "reached a 3", "put a 3", "body b g", "needed b g 0", "only a f 0", "reached b 3", "words b g 0", "only b g 0",
            "reached b 4", "words b g 1", "needed a f x", "reached a 4", "only a f x"])
        self.assertEqual(dict(found.asked)[("body", "b", "g")], "2 p show give")
        self.assertEqual(dict(found.asked)[("words", "b", "g", 1)], "give p")

    def test_without_budget(self):
        found = self.put("call x b.g p / show x", B, "call x b.g p / show x", budget=0)
        self.assertIn((("put", "a", 3), "no"), found.asked)
        self.assertNotIn("body b g", self.asked(found))

    def test_result_that_is_not_needed(self):
        found = self.put("call x b.g p", B, "let x0 p / show x0")
        self.assertIn((("needed", "a", "f", "x"), "no"), found.asked)
        self.assertNotIn(("wanted", "b", "g"), dict(found.asked))

    def test_places_that_are_not_needed(self):
        b = "unit b / open g p q r / show q / give ON / end"
        found = self.put("call x b.g p p 3 / show x", b, "let x0 p / show x0 / let x ON / show ON")
        self.assertEqual([question for question in self.asked(found) if question.startswith("needed b")],
                         ["needed b g 0", "needed b g 1", "needed b g 2"])
        self.put("call x b.g p 1 p", b, "let x0 1 / show x0")

    def test_operands(self):
        b = "unit b / open g p q / show p / show q / give p / end"
        self.put("call x b.g BAD 4 / show x", b, "let x0 BAD / let x1 4 / show BAD / show x1 / let x BAD / show BAD")
        self.put("let y ON / call x b.g y p / show x", b,
                 "let y ON / let x0 ON / let x1 p / show ON / show x1 / let x ON / show ON")

    def test_local_names(self):
        b = "unit b / open g p / let x p / let y x + 1 / give y / end"
        self.put("call x b.g p / show x", b, "let x0 p / let x1 x0 / let x2 x1 + 1 / let x x2 / show x")
        found = self.put("call x b.g p / call y b.g 5 / show y", b,
                         "let x0 p / let x1 x0 / let x2 x1 + 1 / let x3 5 / let x4 x3 / let x5 x4 + 1 / let y x5 / show y")
        self.assertEqual(len([1 for question in self.asked(found) if question == "words b g 0"]), 1)
        self.assertEqual(found.origins[2], (("a", 3),))
        self.assertEqual(found.origins[5:8], ((("a", 4),), (("b", 3), ("a", 4)), (("b", 4), ("a", 4))))

    def test_lets_that_are_not_needed(self):
        b = "unit b / open g p / let x p + 1 / let y p / give 2 / end"
        self.put("call x b.g p / show x", b, "let x0 p / let x1 x0 + 1 / let x 2 / show x")
        self.put("call x b.g 7 / show x", b, "let x 2 / show x")
        self.put("call x b.g 7 / show p", b, "show p")

    def test_not_reached_statements(self):
        b = "unit b / open g p / let x ON + p / show p / give p / end"
        found = self.put("call x b.g p / show x", b, "let x0 p / let x1 ON + x0")
        self.assertIn((("reached", "b", 4), "no"), found.asked)
        self.assertNotIn(("words", "b", "g", 1), dict(found.asked))
        self.assertEqual(dict(found.asked)[("reached", "a", 4)], "no")

    def test_calls_in_bodies(self):
        c = "unit c / open h r s / show r / give ON / end"
        b = "unit b / open g p / call x c.h p p / give x / end"
        found = self.put("call x b.g p / show x", b, "let x0 p / call x1 c.h x0 NONE / let x ON / show ON", other=(c,))
        self.assertNotIn(("put", "b", 3), dict(found.asked))
        self.assertEqual(found.origins[3], (("b", 3), ("a", 3)))
        first = self.put("call x b.g p / show x", b, "let x0 p / call x1 c.h x0 NONE / let x ON / show ON", 1, other=(c,))
        self.assertEqual(first, found)
        some = program(("unit a / open f p / call x b.g p / show x / end", b, c), ROOTS)
        self.assertEqual(made(some, "b", budget=1).text, spread("unit b / open g p / call x c.h p NONE / give ON / end"))
        self.assertEqual(made(some, "b", budget=2).text, spread("unit b / open g p / let x0 p / show x0 / let x ON / give ON / end"))

    def test_calls_of_the_unit_itself(self):
        text = "unit a / open f p / if p is ON / call x b.g p / end / end"
        found = self.made((text, "unit b / open g q / call x a.f 1 / give q / end"), budget=9)
        self.assertEqual(found.text, spread("unit a / open f p / if p is ON / call x0 a.f 1 / end / end"))
        self.assertEqual(found.origins[3], (("b", 3), ("a", 4)))

    def test_a_body_with_its_result_alone(self):
        self.put("call x b.g / show x", "unit b / open g / give 3 / end", "let x 3 / show x")
        self.put("call x b.g p / show x", "unit b / open g q / give q / end", "let x0 p / let x x0 / show x")
        self.put("call x b.g / show p", "unit b / open g / give 3 / end", "show p")

    def test_in_the_place_of_a_do(self):
        b = "unit b / open g / give 3 / end"
        self.put("do / call x b.g / end / show p", b, "show p")
        self.put("try / call x b.g / show x / catch e / end", b, "do / let x 3 / show x / end")

    def test_fresh_names(self):
        b = "unit b / open g x0 / let x1 x0 / give x1 / end"
        self.put("call x b.g x2 / show x", b, "let x0 x2 / let x1 x0 / let x x1 / show x", params="x2")
        self.put("call x0 b.g p / show x0", b, "let x1 p / let x2 x1 / let x0 x2 / show x0")
        text = "unit a / cell x0 ON / open f p / call x b.g p / show x / end / open h / call x b.g 3 / show x / end"
        found = self.made((text, b), roots=(("a", "f"), ("a", "h")), budget=2)
        self.assertEqual(found.text, spread("unit a / open f p / let x1 p / let x2 x1 / let x x2 / show x / end"
                                            " / open h / let x1 3 / let x2 x1 / let x x2 / show x / end"))

    def test_fresh_names_beside_those_of_sets(self):
        b = "unit b / open g p / show p / give p / end"
        self.put("let x 1 / set x p + 1 / call y b.g p / set x p + 2 / show y", b,
                 "let x0 p + 1 / let x1 p / show x1 / let y x1 / let x2 p + 2 / show y")


class TestCandidates(MadeTest):
    SMALL = ("give 1", "let x p / give x", "show p / show p / give 1", "call x c.h / give x", "let x p + 1 / call y c.h / give p",
             "call x c.h / call y c.h / give 1", "show p / give p")
    BIG = ("show p", "let x p / let y p / let z p / give z", "give 1 / show p", "raise p", "give 1 / give 2", "let x p / set x 1 / give x",
           "do / end / give 1", "if p is ON / give 1 / end", "call x l / give x", "keep k p / give p", "get x k / give x", "show p / show p",
           "let x p / call y l / give x", "")

    def test_small_functions(self):
        for bodies, expected in ((self.SMALL, "yes"), (self.BIG, "no")):
            for body in bodies:
                b = f"unit b / cell k ON / open g p / {body} / end / local l / end".replace(" /  / ", " / ")
                some = program(("unit a / open f / call x b.g 1 / end", b, "unit c / open h / end"), ROOTS)
                with self.subTest(body):
                    self.assertEqual(answer(some, ("put", "a", 3), budget=99), expected)

    def test_local_functions_are_not_put_in(self):
        some = program(("unit a / open f / call x l / end / local l / give 1 / end",), ROOTS)
        self.assertEqual(answer(some, ("put", "a", 3), budget=99), "no")

    def test_order_and_budget(self):
        c = "unit c / open h / give 1 / end"
        b = "unit b / open g / call x c.h / give 1 / end"
        a = "unit a / open f / if 0 < 1 / call x c.h / end / call x b.g / call y c.h / raise 1 / call z c.h / end / open n / call x c.h / end"
        places = [("a", 4), ("a", 6), ("a", 7), ("a", 9), ("a", 12), ("b", 3)]
        for texts in ((a, b, c), (c, b, a)):
            some = program(texts, ROOTS)
            for budget, many in ((0, 0), (1, 1), (2, 2), (3, 3), (4, 4), (5, 4), (99, 4)):
                told = [place for place in places if answer(some, ("put", *place), budget=budget) == "yes"]
                self.assertEqual(told, [("a", 4), ("a", 6), ("a", 7), ("b", 3)][:many])

    def test_units_by_name(self):
        c = "unit c / open h / give 1 / end"
        texts = [f"unit {name} / open f / call x c.h / end" for name in ("b", "a", "d")]
        some = program((*texts, c), (("a", "f"), ("b", "f"), ("d", "f")))
        for budget, put in ((1, ["a"]), (2, ["a", "b"]), (3, ["a", "b", "d"])):
            self.assertEqual([name for name in "abd" if answer(some, ("put", name, 3), budget=budget) == "yes"], put)


if __name__ == "__main__":
    unittest.main()

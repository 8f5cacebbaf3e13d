"""Made units by hand: each statement, with each answer; the order of asking; origins."""

import unittest

from hungfacts.errors import BadBudget, NoUnit
from hungfacts.making import Made, made
from hungfacts.questions import answer
from tests.helper import program, spread
from tests.kinds import KINDS
from tests.test_solving import FOUR, LESS, MAIN

ROOTS = (("a", "f"),)


class MadeTest(unittest.TestCase):
    maxDiff = None

    def made(self, texts, name="a", roots=ROOTS, words=("ON", "OFF"), budget=0):
        some = program(texts, roots, words)
        found = made(some, name, budget=budget)
        self.assertEqual(len(found.origins), found.text.count("\n") + 1)
        self.assertEqual(len({question for question, _ in found.asked}), len(found.asked))
        for question, told in found.asked:
            self.assertEqual(answer(some, question, budget=budget), told)
        return found

    def look(self, text, expected, asked=None, params="p q", other=()):
        """What a body of f is made into; asked are the questions behind called and reached ones."""
        head = f"unit a / open f {params} / "
        found = self.made((f"{head}{text} / end", *other))
        self.assertEqual(found.text, spread(f"{head}{expected} / end" if expected else head + "end"))
        if asked is not None:
            told = [" ".join([*map(str, question), "=", answer]) for question, answer in found.asked
                    if question[0] not in ("called", "reached")]
            self.assertEqual("; ".join(told), asked)
        return found


class TestStatements(MadeTest):
    def test_let(self):
        self.look("let x p / show x", "let x p / show x", "needed a f x = yes; only a f 0 = -; only a f x = -")
        self.look("let x p / show p", "show p", "needed a f x = no; only a f 0 = -")
        self.look("let x ON / show x", "let x ON / show ON", "needed a f x = yes; only a f x = ON")
        self.look("let x 3 / show x", "let x 3 / show x", "needed a f x = yes; only a f x = -")

    def test_set(self):
        self.look("let x 1 / set x p / show x", "let x 1 / set x p / show x")
        self.look("let x 1 / set x p / show p", "show p", "needed a f x = no; only a f 0 = -")

    def test_let_with_a_sum(self):
        self.look("let x p + 1 / show x", "let x p + 1 / show x", "needed a f x = yes; only a f 0 = -; only a f x = -")
        self.look("let x p + q / show 1", "let x p + q / show 1", "needed a f x = no; fails a 3 = yes; only a f 0 = -; only a f 1 = -")
        self.look("let x 2 + 3 / show 1", "show 1", "needed a f x = no; fails a 3 = no")
        self.look("let y BAD / let x 1 - y / show 1", "let y BAD / let x 1 - BAD",
                  "needed a f y = yes; needed a f x = no; fails a 4 = yes; only a f y = BAD")

    def test_set_with_a_sum(self):
        self.look("let x 1 / set x p * 2 / show x", "let x 1 / set x p * 2 / show x")
        self.look("let x 1 / set x p * q / show 1", "let x0 p * q / show 1",
                  "needed a f x = no; fails a 4 = yes; only a f 0 = -; only a f 1 = -")
        self.look("let x 1 / set x 2 * 2 / show 1", "show 1", "needed a f x = no; fails a 4 = no")
        self.look("let x 1 / set x p + 1 / set x p + 2", "let x0 p + 1 / let x1 p + 2")

    def test_fresh_names(self):
        self.look("let x0 1 / set x0 p + 1", "let x1 p + 1")
        self.look("let x 1 / set x p + 1 / let x0 p / show x0", "let x1 p + 1 / let x0 p / show x0")
        self.look("let x 1 / set x p + 1 / give 1 / call x1 x0.x2", "let x0 p + 1 / give 1", other=("unit x0 / open x2 / end",))
        self.look("let x 1 / set x p + 1 / give 1 / call x0 x0.x2", "let x1 p + 1 / give 1", other=("unit x0 / open x2 / end",))
        self.look("let x 1 / set x x1 + 1", "let x0 x1 + 1", params="x1 q")
        texts = ("unit a / cell x0 ON / cell x2 ON / open f p / let x 1 / set x p + 1 / set x p + 1 / end / open x1 / let x 1 / set x BAD + 1 / end",)
        self.assertEqual(self.made(texts, roots=(("a", "f"), ("a", "x1"))).text, spread(
            "unit a / open f p / let x1 p + 1 / let x3 p + 1 / end / open x1 / let x3 BAD + 1 / end"))

    def test_fresh_names_and_words_of_lines_that_are_left_out(self):
        self.look("let x0 1 / let y 1 / set y p + 1", "let x1 p + 1")
        self.look("let y 1 / set y p + 1 / do / let x1 2 / let x0 2 / end", "let x2 p + 1")
        self.look("let y 1 / set y p + 1", "let x1 p + 1", params="p x0")
        for text in ("unit x0 / open f p / let x 1 / set x p + 1 / end", "unit x0 / open f p / let x 1 / set x p + 1 / end / local x0 / end",
                     "unit x0 / local l x0 / end / open f p / let x 1 / set x p + 1 / end"):
            found = self.made((text,), "x0", (("x0", "f"),))
            self.assertEqual(found.text, spread("unit x0 / open f p / let x0 p + 1 / end"))

    def test_without_a_budget_nothing_is_put_in(self):
        some = program(("unit a / open f / call x b.g / end", "unit b / open g / give 1 / end"), ROOTS)
        self.assertEqual(made(some, "a").text, spread("unit a / open f / call x b.g / end"))
        self.assertEqual(made(some, "a", budget=1).text, spread("unit a / open f / end"))

    def test_fresh_names_of_each_function(self):
        text = "unit a / open f p / let x 1 / set x p + 1 / end / open g p / let x 1 / set x p + 2 / end"
        self.assertEqual(self.made((text,), roots=(("a", "f"), ("a", "g"))).text, spread(
            "unit a / open f p / let x0 p + 1 / end / open g p / let x0 p + 2 / end"))

    def test_calls(self):
        b = "unit b / open g r s / show r / end"
        self.look("call x b.g p q", "call x b.g p NONE", "put a 3 = no; needed b g 0 = yes; only a f 0 = -; needed b g 1 = no", other=(b,))
        self.look("let y BAD / call x b.g y y", "let y BAD / call x b.g BAD NONE",
                  "needed a f y = yes; put a 4 = no; needed b g 0 = yes; only a f y = BAD; needed b g 1 = no", other=(b,))
        text = "unit a / open f p / call x l p / call y l 3 / show y / end / local l r / give r / end"
        found = self.made((text,))
        self.assertEqual(found.text, spread(text))
        self.assertEqual([question for question, _ in found.asked if question[0] in ("put", "needed")],
                         [("put", "a", 3), ("needed", "a", "l", "0"), ("put", "a", 4)])

    def test_calls_by_which_nothing_is_needed(self):
        self.look("call x b.g p 3 ON", "call x b.g NONE NONE NONE", other=("unit b / open g r s e / raise 1 / end",))

    def test_cells(self):
        text = "unit a / cell c ON / cell d BAD / cell z 1 / open f p / keep c p / get x c / show x / keep d p / get y d / end"
        text = text.replace("cell z 1", "cell z OFF")
        found = self.made((text,))
        self.assertEqual(found.text, spread("unit a / cell c ON / open f p / keep c p / get x c / show x / end"))
        self.assertEqual(found.asked[:4], ((("read", "a", "c"), "yes"), (("read", "a", "d"), "no"), (("read", "a", "z"), "no"),
                                           (("called", "a", "f"), "yes")))
        self.assertEqual([question for question, _ in found.asked[4:] if question[0] != "reached"],
                         [("only", "a", "f", "0"), ("needed", "a", "f", "x"), ("only", "a", "f", "x"), ("needed", "a", "f", "y")])

    def test_operands_of_keep_show_and_raise(self):
        text = "unit a / cell c ON / open f / let x OFF / keep c x / get y c / show y / raise x / end"
        self.assertEqual(self.made((text,)).text, spread("unit a / cell c ON / open f / let x OFF / keep c OFF / get y c / show y / raise OFF / end"))

    def test_give(self):
        self.look("give p", "give p", "wanted a f = yes; only a f 0 = -")
        text = "unit a / open f p / call x l p / end / local l r / give r / end"
        found = self.made((text,))
        self.assertEqual(found.text, spread("unit a / open f p / call x l NONE / end / local l r / give NONE / end"))
        self.assertIn((("wanted", "a", "l"), "no"), found.asked)
        self.assertNotIn(("only", "a", "l", "0"), dict(found.asked))

    def test_not_reached(self):
        self.look("give 1 / show 2 / if p is ON / show 3 / end / while p is ON / end / do / show 1 / end", "give 1", "wanted a f = yes")
        found = self.look("raise ON / if p is ON / show 3 / end", "raise ON")
        self.assertEqual(found.asked[-1], (("reached", "a", 4), "no"))

    def test_functions_that_are_not_called(self):
        text = "unit a / local l / show 1 / end / open f / end / open g p / show p / end"
        found = self.made((text,))
        self.assertEqual(found.text, spread("unit a / open f / end"))
        self.assertEqual(found.asked, ((("called", "a", "l"), "no"), (("called", "a", "f"), "yes"), (("called", "a", "g"), "no")))
        self.assertEqual(found.origins, ((("a", 1),), (("a", 5),), (("a", 6),)))
        self.assertEqual(self.made((text, "unit b / cell c ON / open g / end"), "b").text, "unit b")


class TestBlocks(MadeTest):
    def test_if_with_both_ways(self):
        self.look("if p is ON / show 1 / else / show 2 / end", "if p is ON / show 1 / else / show 2 / end", "ways a 3 = both; only a f 0 = -")
        self.look("if p is ON / let x 1 / else / end", "if p is ON / else / end")
        self.look("if p is ON / end", "if p is ON / end")

    def test_if_with_one_way(self):
        head = "let x ON / "
        found = self.look(head + "if x is ON / show 1 / else / show 2 / end", "do / show 1 / end",
                          "needed a f x = no; ways a 4 = yes")
        self.assertEqual(found.origins[2:6], ((("a", 4),), (("a", 5),), (("a", 8),), (("a", 9),)))
        found = self.look(head + "if x is OFF / show 1 / else / show 2 / end", "do / show 2 / end", "needed a f x = no; ways a 4 = no")
        self.assertEqual(found.origins[2:5], ((("a", 4),), (("a", 7),), (("a", 8),)))
        self.look(head + "if x is OFF / show 1 / end / show 2", "show 2", "needed a f x = no; ways a 4 = no")
        self.look(head + "if x is OFF / show 1 / else / end", "")
        self.look(head + "if x is ON / else / show 2 / end", "")
        self.look(head + "if x is ON / let y 1 / else / show 2 / end", "")

    def test_if_that_is_reached_by_nothing_that_it_tests(self):
        self.look("let x p + ON / if x is ON / show 1 / end", "let x p + ON", "needed a f x = no; fails a 3 = yes; only a f 0 = -")

    def test_if_less(self):
        self.look("if p < q / show 1 / else / end", "if p < q / show 1 / else / end", "only a f 0 = -; only a f 1 = -")
        self.look("let x ON / if x < p / show 1 / else / show 2 / end", "let x ON / if ON < p / else / end",
                  "needed a f x = yes; only a f x = ON; only a f 0 = -")

    def test_while(self):
        self.look("while p is ON / show 1 / end", "while p is ON / show 1 / end", "ways a 3 = both; only a f 0 = -")
        self.look("let x ON / while x is OFF / show 1 / end", "", "needed a f x = no; ways a 4 = no")
        self.look("let x ON / while x is ON / show p / end / show 1", "while ON is ON / show p / end",
                  "needed a f x = no; ways a 4 = yes; only a f x = ON; only a f 0 = -")
        self.look("while p < 3 / let y 1 / end", "while p < 3 / end", "only a f 0 = -; needed a f y = no")

    def test_try(self):
        self.look("try / show 1 / raise p / catch e / show e / end", "try / show 1 / raise p / catch e / show e / end",
                  "caught a 3 = yes; only a f 0 = -; only a f e = -")
        found = self.look("try / show 1 / catch e / show e / end / show 2", "do / show 1 / end / show 2", "caught a 3 = no")
        self.assertEqual(found.origins[2:6], ((("a", 3),), (("a", 4),), (("a", 7),), (("a", 8),)))
        self.look("try / let x 1 / catch e / show e / end", "")
        self.look("try / raise 1 / catch e / end", "try / raise 1 / catch e / end")

    def test_do(self):
        self.look("do / show 1 / end", "do / show 1 / end", "")
        self.look("do / let x 1 / do / end / end", "", "needed a f x = no")

    def test_blocks_within_blocks(self):
        text = "let x ON / if x is ON / try / do / if x is OFF / show 1 / else / show p / end / end / catch e / end / end / show q"
        found = self.look(text, "do / do / do / do / show p / end / end / end / end / show q")
        self.assertEqual([line for ((_, line),) in found.origins], [1, 2, 4, 5, 6, 7, 10, 11, 12, 14, 15, 16, 17])

    def test_order_of_asking(self):
        found = self.made(("unit a / open f p / if p is ON / let x p - 1 / end / show p / end",))
        self.assertEqual(found.asked, (
            (("called", "a", "f"), "yes"), (("reached", "a", 3), "yes"), (("ways", "a", 3), "both"), (("only", "a", "f", "0"), "-"),
            (("reached", "a", 4), "yes"), (("needed", "a", "f", "x"), "no"), (("fails", "a", 4), "yes"), (("reached", "a", 6), "yes")))
        self.assertEqual(found.origins, tuple([(("a", line),) for line in range(1, 8)]))


class TestWhole(MadeTest):
    def test_section_12(self):
        self.assertEqual(self.made(FOUR, "k", MAIN).text, spread("unit k / open k p / if p is NONE / raise BAD / end / give NONE / end"))
        self.assertEqual(self.made(LESS, "k", MAIN).text, spread("unit k / open k p / give NONE / end"))
        self.assertEqual(self.made(LESS, "b", MAIN).text, "unit b")

    def test_equality(self):
        some = program(FOUR, MAIN)
        one, other = made(some, "k"), made(program(FOUR[::-1], MAIN), name="k", budget=0)
        self.assertTrue(one == other)
        self.assertFalse(one != other)
        self.assertTrue(one == Made(one.text, one.origins, one.asked))
        for value in (Made(one.text + " ", one.origins, one.asked), Made(one.text, one.origins[1:], one.asked),
                      Made(one.text, one.origins, one.asked[1:]), made(some, "m"), one.text, None, 0,
                      (one.text, one.origins, one.asked), some):
            self.assertFalse(one == value)
            self.assertTrue(one != value)

    def test_kinds_of_values(self):
        found = made(program(FOUR, MAIN), "m", budget=3)
        self.assertEqual((type(found.text), type(found.origins), type(found.asked)), (str, tuple, tuple))
        for origin in found.origins:
            self.assertIn(len(origin), (1, 2))
            self.assertTrue(all(isinstance(line, tuple) and len(line) == 2 for line in origin))

    def test_no_unit(self):
        some = program(FOUR, MAIN)
        for value in KINDS + ("main", "M", ["m"], ("m",)):
            for budget in (0, None, 100):
                with self.subTest(repr(value)):
                    with self.assertRaises(NoUnit) as caught:
                        made(some, value, budget=budget)
                    self.assertIs(caught.exception.value, value)

    def test_bad_budget(self):
        some = program(FOUR, MAIN)
        for value in [value for value in KINDS if value not in (0, 1, 99) or isinstance(value, bool)] + [-1, 100, "0"]:
            with self.subTest(repr(value)):
                with self.assertRaises(BadBudget) as caught:
                    made(some, "m", budget=value)
                self.assertIs(caught.exception.value, value)
        with self.assertRaises(TypeError):
            made(some, "m", 0)


if __name__ == "__main__":
    unittest.main()

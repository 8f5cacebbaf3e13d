"""Runs by hand: each statement, faults and their places, goes, names in scope."""

import unittest

from hungfacts.runs import run, steps
from tests.helper import program, unit

MAIN = ("a", "f")


def going(text, values=(), most=50, words=("ON", "OFF"), others=()):
    """What comes of a run of f of the unit a, whose text is given without its first line."""
    return run(program(("unit a / " + text, *others), (MAIN,), words), MAIN, values, most)


def body(text, values=(), most=50, params="p q"):
    return going(f"open f {params} / {text} / end".replace(" /  / ", " / "), values, most)


def gave(value, *shown):
    return ("gave", value, shown)


class TestStatements(unittest.TestCase):
    def test_let_and_set(self):
        self.assertEqual(body("let x p / set x q / show x / give p", ("ON", 3)), gave("ON", 3))
        self.assertEqual(body("let x 1 / let y x / set x 2 / show y / give x", (0, 0)), gave(2, 1))

    def test_remainders(self):
        for values, term, value in (((5, 4), "p + q", 9), ((1000000, 4), "p + q", 1), ((1000000, 2), "p + q", 1000002),
                                    ((1000000, 3), "p + q", 0), ((-9, 4), "p + q", 999998), ((0, 1), "p - q", 1000002),
                                    ((5, 4), "p - q", 1), ((-1000003, 0), "p - q", 0), ((-1000004, 0), "p - q", 1000002),
                                    ((1000, 1001), "p * q", 997), ((-1, 1), "p * q", 1000002),
                                    ((-2, -3), "p * q", 6), ((1000003, 0), "p + q", 0), ((0, 0), "0 - 1", 1000002),
                                    ((2, 0), "p * -7", 999989), ((2, 0), "999999999 + p", 997004)):
            for line in ("let x", "let x 0 / set x"):
                with self.subTest(term, values=values, line=line):
                    self.assertEqual(body(f"{line} {term} / give x", values), gave(value))

    def test_big_values(self):
        big, low = 999999999999999999, -999999999999999999
        self.assertEqual(body("show p / show q / give p", (big, low)), gave(big, big, low))
        self.assertEqual(body("let x p * q / give x", (big, low)), gave(big * low % 1000003))
        self.assertEqual(body("let x p + 0 / give x", (low, 0)), gave(low % 1000003))
        self.assertEqual(body("if q < p / give 1 / end", (big, low)), gave(1))
        self.assertEqual(body("let x p / set x x / give x", (1000003, 0)), gave(1000003))
        self.assertEqual(going("cell c ON / open f p / keep c p / get x c / call y l x / give y / end / local l p / give p / end",
                               (low,)), gave(low))

    def test_words_in_sums(self):
        for term in ("p + 1", "1 + p", "p - p", "p * q", "ON + 1", "1 * NONE", "BAD - OFF"):
            for line in ("let x", "let x 0 / set x"):
                with self.subTest(term, line=line):
                    found = body(f"show 1 / {line} {term} / give x", ("ON", 1))
                    self.assertEqual(found, ("raised", "BAD", (("a", 4 if line == "let x" else 5),), (1,)))

    def test_words_in_tests(self):
        for test in ("p < 1", "1 < p", "p < p", "ON < 2", "0 < NONE"):
            for word in ("if", "while"):
                with self.subTest(test, word=word):
                    self.assertEqual(body(f"{word} {test} / give 1 / end / give 2", ("OFF", 0)), ("raised", "BAD", (("a", 3),), ()))

    def test_a_set_with_a_fault_sets_nothing(self):
        self.assertEqual(body("let x 7 / try / set x p + 1 / catch e / show e / end / give x", ("ON", 0)), gave(7, "BAD"))

    def test_cells(self):
        text = "cell c ON / cell d BAD / open f / get x c / show x / keep c 5 / get y c / show y / get z d / give z / end"
        self.assertEqual(going(text), gave("BAD", "ON", 5))

    def test_cells_of_several_units_of_one_name(self):
        b = "unit b / cell c OFF / open g / get x c / keep c 9 / give x / end"
        text = "cell c ON / open f / call x b.g / show x / get y c / show y / keep c 1 / call z b.g / show z / get e c / give e / end"
        self.assertEqual(going(text, others=(b,)), gave(1, "OFF", "ON", 9))

    def test_cells_begin_anew_in_each_run(self):
        text = "cell c ON / open f / get x c / keep c OFF / give x / end"
        self.assertEqual([going(text), going(text)], [gave("ON")] * 2)

    def test_show_and_give(self):
        self.assertEqual(body("show p / show NONE / show -3 / give 12 / show 1", ("BAD", 0)), gave(12, "BAD", "NONE", -3))
        self.assertEqual(body("give OFF", (1, 2)), gave("OFF"))
        self.assertEqual(body("show 1", (1, 2)), gave("NONE", 1))
        self.assertEqual(going("open f / end"), gave("NONE"))

    def test_raise(self):
        for operand, word in (("ON", "ON"), ("BAD", "BAD"), ("NONE", "NONE"), ("3", "BAD"), ("p", "OFF"), ("q", "BAD")):
            self.assertEqual(body(f"show 0 / raise {operand} / show 1", ("OFF", 4)), ("raised", word, (("a", 4),), (0,)))

    def test_if(self):
        both = "if p is ON / show 1 / else / show 2 / end / give 3"
        self.assertEqual([body(both, (value, 0)) for value in ("ON", "OFF", "NONE", 0, 1)],
                         [gave(3, 1)] + [gave(3, 2)] * 4)
        one = "if p < q / show 1 / end / show 3"
        self.assertEqual([body(one, values) for values in ((1, 2), (2, 2), (3, 2), (-2, -1))],
                         [gave("NONE", 1, 3), gave("NONE", 3), gave("NONE", 3), gave("NONE", 1, 3)])
        self.assertEqual(body("if p is NONE / else / give 1 / end / give 2", ("NONE", 0)), gave(2))
        self.assertEqual(body("if p is NONE / give 1 / else / end / give 2", ("BAD", 0)), gave(2))

    def test_while(self):
        text = "let n 0 / while n < p / show n / set n n + 1 / end / give n"
        self.assertEqual(body(text, (3, 0)), gave(3, 0, 1, 2))
        self.assertEqual(body(text, (0, 0)), gave(0))
        self.assertEqual(body("let n p / while n is ON / show n / set n 1 / end / give n", ("ON", 0)), gave(1, "ON"))

    def test_do(self):
        self.assertEqual(body("do / let x 1 / show x / end / do / let x 2 / show x / end / do / end / give p", (5, 0)),
                         gave(5, 1, 2))

    def test_parts_follow_one_another(self):
        text = "if p is ON / do / try / show 1 / catch e / show 2 / end / show 3 / end / show 4 / else / show 5 / end / show 6"
        self.assertEqual(body(text, ("ON", 0)), gave("NONE", 1, 3, 4, 6))
        self.assertEqual(body(text, ("OFF", 0)), gave("NONE", 5, 6))


class TestCalls(unittest.TestCase):
    def test_values_and_what_is_given(self):
        text = "open f p / call x l p 3 / show x / call y b.g x / give y / end / local l r s / show s / give r / end"
        self.assertEqual(going(text, ("ON",), others=("unit b / open g z / show z / give -1 / end",)), gave(-1, 3, "ON", "ON"))

    def test_end_gives_none(self):
        self.assertEqual(going("open f / call x l / give x / end / local l / show 1 / end"), gave("NONE", 1))

    def test_recursion(self):
        text = "open f p / call x l p / give x / end / local l n / if n < 1 / give 0 / end / let m n - 1 / call s l m" \
               " / let t s + n / give t / end"
        self.assertEqual(going(text, (9,)), gave(45))
        self.assertEqual(going(text, (300,), 302), gave(45150))
        self.assertEqual(going(text, (300,), 301), ("tired",))

    def test_rings(self):
        a = "open f p / show p / if p is ON / call x b.g 0 / end / call y b.g p / give 1 / end"
        b = "unit b / open g n / if n < 2 / let m n + 1 / call x b2.h m / give x / end / give n / end"
        other = "unit b2 / open h n / show n / call x b.g n / give x / end"
        self.assertEqual(going(a, (0,), others=(b, other)), gave(1, 0, 1, 2))
        self.assertEqual(going(a, ("ON",), others=(b, other)), ("raised", "BAD", (("b", 3), ("a", 7)), ("ON", 1, 2)))
        ring = going("open f / call x b.g / end", others=("unit b / open g / call x a.f / end",))
        self.assertEqual(ring, ("tired",))

    def test_functions_with_the_names_of_others(self):
        text = "open f / call x l / call y b.l / let z x + y / give z / end / local l / give 1 / end"
        self.assertEqual(going(text, others=("unit b / open l / call x m / give x / end / local m / give 20 / end",)), gave(21))

    def test_names_of_each_call_are_its_own(self):
        text = "open f p / let x 1 / call y l 5 / show x / give p / end / local l p / let x p / set x 9 / give x / end"
        self.assertEqual(going(text, (3,)), gave(3, 1))


class TestFaults(unittest.TestCase):
    def test_innermost_try(self):
        text = "try / show 1 / try / raise p / catch e / show e / raise q / end / show 2 / catch e / show 3 / show e / end / give 4"
        self.assertEqual(body(text, ("ON", "OFF")), gave(4, 1, "ON", 3, "OFF"))

    def test_first_part_without_fault(self):
        self.assertEqual(body("try / show 1 / catch e / show 2 / end / give 3", (0, 0)), gave(3, 1))

    def test_second_part_is_not_guarded_by_its_own_try(self):
        self.assertEqual(body("try / raise ON / catch e / raise OFF / end", (0, 0)), ("raised", "OFF", (("a", 6),), ()))

    def test_try_in_a_second_part(self):
        text = "try / raise ON / catch e / try / raise e / catch s / show s / end / show e / end / give 1"
        self.assertEqual(body(text, (0, 0)), gave(1, "ON", "ON"))

    def test_in_blocks_of_the_first_part(self):
        text = "try / while 0 < 1 / if p is ON / do / raise p / end / end / end / catch e / give e / end"
        self.assertEqual(body(text, ("ON", 0)), gave("ON"))

    def test_at_tests(self):
        text = "try / {} p < 1 / show 1 / end / catch e / give e / end / give 2"
        for word in ("if", "while"):
            self.assertEqual(body(text.format(word), ("ON", 0)), gave("BAD"))

    def test_over_calls(self):
        b = "unit b / open g p / call x l p / end / local l p / try / show p / catch e / show 9 / end / raise p / end"
        text = "open f p / try / call x b.g p / catch e / show e / end / call y b.g OFF / end"
        self.assertEqual(going(text, ("ON",), others=(b,)), ("raised", "OFF", (("b", 11), ("b", 3), ("a", 8)), ("ON", "ON", "OFF")))

    def test_name_of_the_call_is_not_set_by_a_fault(self):
        text = "open f / try / call x l / show x / catch e / show e / end / give 1 / end / local l / raise 0 / end"
        self.assertEqual(going(text), gave(1, "BAD"))

    def test_places_are_those_of_the_last_fault(self):
        text = "open f / try / call x l / catch e / raise e / end / end / local l / raise ON / end"
        self.assertEqual(going(text), ("raised", "ON", (("a", 6),), ()))


class TestGoes(unittest.TestCase):
    def look(self, text, values, goes, outcome, others=()):
        """Just so many goes do; with each number below the run is tired."""
        self.assertEqual(going(text, values, goes, others=others), outcome)
        self.assertEqual(going(text, values, 2000, others=others), outcome)
        for most in range(1, goes):
            self.assertEqual(going(text, values, most, others=others), ("tired",))

    def test_root(self):
        self.look("open f / show 1 / end", (), 1, gave("NONE", 1))

    def test_calls(self):
        self.look("open f / call x l / call y l / end / local l / call x b.g / end", (), 5, gave("NONE"),
                  ("unit b / open g / end",))

    def test_each_test_of_a_while(self):
        self.look("open f p / let n 0 / while n < p / set n n + 1 / end / end", (4,), 6, gave("NONE"))
        self.look("open f p / while p is ON / end / give p / end", ("OFF",), 2, gave("OFF"))

    def test_counted_ahead_of_the_fault(self):
        self.look("open f p / while p < 1 / end / end", ("ON",), 2, ("raised", "BAD", (("a", 3),), ()))
        self.look("open f p / try / while p < 1 / end / catch e / give e / end / end", ("ON",), 2, gave("BAD"))
        self.look("open f p / try / call x l / catch e / give e / end / end / local l / raise ON / end", (0,), 2, gave("ON"))

    def test_ifs_are_none(self):
        self.look("open f p / if p is ON / if 0 < 1 / show 1 / end / end / end", ("ON",), 1, gave("NONE", 1))

    def test_many_goes(self):
        text = "open f p / let n 0 / while n < p / set n n + 1 / end / give n / end"
        self.assertEqual(going(text, (1998,), 2000), gave(1998))
        self.assertEqual(going(text, (1999,), 2000), ("tired",))
        self.assertEqual(going("open f / while 0 < 1 / end / end", (), 2000), ("tired",))

    def test_deep_calls(self):
        text = "open f n / call x l n / give x / end / local l n / if n < 1 / raise ON / end / let m n - 1 / call x l m / end"
        found = going(text, (1990,), 2000)
        self.assertEqual(found[:2] + (len(found[2]), found[2][:2], found[2][-1]),
                         ("raised", "ON", 1992, (("a", 8), ("a", 11)), ("a", 3)))
        self.assertEqual(going(text, (-1,), 2), ("raised", "ON", (("a", 8), ("a", 3)), ()))


class TestSteps(unittest.TestCase):
    def told(self, text, values=(), most=50, others=()):
        some = program(("unit a / " + text, *others), (MAIN,), ("ON", "OFF"))
        return list(steps(some, MAIN, values, most))

    def test_one_item_for_each_statement(self):
        text = "open f p / let n 0 / while n < 2 / set n n + p / end / do / let y n / show y / end / give n / end"
        self.assertEqual(self.told(text, (1,)), [
            ((("a", 3),), (("p", 1),)), ((("a", 4),), (("n", 0), ("p", 1))), ((("a", 5),), (("n", 0), ("p", 1))),
            ((("a", 4),), (("n", 1), ("p", 1))), ((("a", 5),), (("n", 1), ("p", 1))), ((("a", 4),), (("n", 2), ("p", 1))),
            ((("a", 7),), (("n", 2), ("p", 1))), ((("a", 8),), (("n", 2), ("p", 1))),
            ((("a", 9),), (("n", 2), ("p", 1), ("y", 2))), ((("a", 11),), (("n", 2), ("p", 1)))])

    def test_calls_and_faults(self):
        text = "open f z / try / let b z / call x l b / catch a / show a / end / end / local l q / raise q / end"
        self.assertEqual(self.told(text, ("ON",)), [
            ((("a", 3),), (("z", "ON"),)), ((("a", 4),), (("z", "ON"),)), ((("a", 5),), (("b", "ON"), ("z", "ON"))),
            ((("a", 11), ("a", 5)), (("q", "ON"),)), ((("a", 7),), (("a", "ON"), ("z", "ON")))])

    def test_names_behind_the_end_of_a_part(self):
        text = "open f / if 0 < 1 / let x 1 / show x / else / let x 2 / end / let x 3 / show x / end"
        self.assertEqual([names for _, names in self.told(text)], [(), (), (("x", 1),), (), (("x", 3),)])
        text = "open f / let n 0 / while n < 1 / let x n / set n n + 1 / end / end"
        self.assertEqual([names for _, names in self.told(text)][-1], (("n", 1),))

    def test_no_statements(self):
        self.assertEqual(self.told("open f / end"), [])
        self.assertEqual(self.told("open f p q / end", (1, 2)), [])
        self.assertEqual(self.told("open f / call x l / end / local l / end"), [((("a", 3),), ())])

    def test_tired(self):
        text = "open f / show 1 / while 0 < 1 / end / end"
        self.assertEqual([places for places, _ in self.told(text, (), 2)], [(("a", 3),), (("a", 4),), (("a", 4),)])
        self.assertEqual([places for places, _ in self.told(text, (), 1)], [(("a", 3),), (("a", 4),)])
        text = "open f / call x b.g / end"
        self.assertEqual(self.told(text, (), 1, ("unit b / open g / show 1 / end",)), [((("a", 3),), ())])
        self.assertEqual(len(self.told(text, (), 2, ("unit b / open g / show 1 / end",))), 2)

    def test_several_at_once(self):
        text = "unit a / open f p / let x p / set x x + 1 / show x / end"
        some = program((text,), (MAIN,), ("ON",))
        first, second = steps(some, MAIN, (1,), 9), steps(some, MAIN, (5,), 9)
        mixed = [next(first), next(second), next(first), next(first), next(second), next(second)]
        self.assertEqual([dict(names).get("x") for _, names in mixed], [None, None, 1, 2, 5, 6])
        self.assertEqual(len(list(steps(some, MAIN, (1,), 9))), 3)
        with self.assertRaises(StopIteration):
            next(first)

    def test_arguments_by_name(self):
        some = program(("unit a / open f p / give p / end",), (MAIN,))
        self.assertEqual(run(program=some, root=MAIN, values=(4,), most=1), gave(4))
        self.assertEqual(list(steps(program=some, root=MAIN, values=(4,), most=1)), [((("a", 3),), (("p", 4),))])

    def test_nothing_is_changed(self):
        some = program(("unit a / cell c ON / open f p / keep c p / show p / end",), (MAIN,))
        same = program(("unit a / cell c ON / open f p / keep c p / show p / end",), (MAIN,))
        self.assertEqual(run(some, MAIN, (4,), 1), run(some, MAIN, (4,), 1))
        self.assertEqual(some, same)
        self.assertEqual(some.unit("a"), unit("unit a / cell c ON / open f p / keep c p / show p / end"))


if __name__ == "__main__":
    unittest.main()

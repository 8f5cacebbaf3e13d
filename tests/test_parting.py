"""Editions of a unit that are alike, or parted by a surrounding."""

import random
import unittest

from hungfacts.errors import BadUnit, NoRoom, NotEditions
from hungfacts.parting import alike, parting, shows_parting
from hungfacts.programs import Program
from hungfacts.solving import facts
from hungfacts.summaries import outputs, summary
from hungfacts.units import Unit
from tests.helper import fact, spread, unit
from tests.kinds import KINDS
from tests.makers import UnitMaker
from tests.test_compare import spoiled

B = "unit b / open g / call x c.h / end"
GIVING = "unit b / open g / call x c.h / give x / end"
MAIN = "unit main\nopen main\ncall y b.g\nend"
C = "unit c\nopen h\ngive BAD\nend"


def is_parted(one, other, value):
    """What shows_parting tells of a triple of texts, a fact and 0 or 1, by whole programs."""
    texts, each, which = value
    units = tuple([Unit(one.words, text) for text in texts])
    known = [each in dict(facts(Program(units + (some,), (("main", "main"),)))) for some in (one, other)]
    return each in outputs(one) + outputs(other) and known[which] and not known[1 - which]


class TestEditions(unittest.TestCase):
    def look(self, one, other, same):
        """Whether two editions are alike, and with that all that parting tells of them."""
        self.assertIs(alike(one, other), same)
        self.assertIs(alike(other, one), same)
        found = parting(one, other)
        self.assertEqual(found is None, same)
        self.assertEqual(parting(other, one) is None, same)
        self.assertEqual(summary(one) == summary(other), same)
        if same:
            self.assertIs(shows_parting(one, other, None), False)
            return
        for first, second in ((one, other), (other, one)):
            texts, each, which = triple = parting(first, second)
            self.assertEqual((type(texts), type(which)), (tuple, int))
            self.assertTrue(is_parted(first, second, triple))
            self.assertIs(shows_parting(first, second, triple), True)
            self.assertIs(shows_parting(second, first, triple), False)
            self.assertIs(shows_parting(first, second, (texts, each, 1 - which)), False)
            self.assertIs(shows_parting(second, first, (texts, each, 1 - which)), True)

    def look_at_bodies(self, one, other, same, words=("ON", "OFF"), params="p q"):
        texts = [f"unit u / open f {params} / {text} / end / open g / end" for text in (one, other)]
        with self.subTest(one, other=other):
            self.look(unit(texts[0], words), unit(texts[1], words), same)

    def test_alike(self):
        for one, other in (("give p", "give p"), ("let x p / give x", "let y p / do / give y / end"),
                           ("show p / show q / give 1", "show q / show p / give -5"), ("give p", "give p / show q / raise ON"),
                           ("if p is ON / give OFF / else / give OFF / end", "if p is ON / end / give OFF"),
                           ("give ON", "if ON is OFF / call x v.g / end / give ON"),
                           ("call x v.g p / give x", "call y v.g p / let z y / give z"),
                           ("raise 3", "raise BAD"), ("give 3", "let x 1 - 4 / give x"), ("raise ON", "try / raise ON / catch e / raise e / end"),
                           ("give NONE", "show NONE"), ("show 1", "show 2")):
            self.look_at_bodies(one, other, True)

    def test_not_alike(self):
        for one, other in (("give p", "give q"), ("if p is ON / raise ON / end", "if p is ON / raise p / end"), ("give p", "show p / give p"), ("give ON", "give OFF"), ("give 1", "give ON"),
                           ("give p", "if p is ON / give p / end"), ("call x v.g p", "call x v.g q"),
                           ("call x v.g p / give x", "call x v.g p / give 1"), ("call x v.g p", "call x v.h p"),
                           ("call x v.g p", "show p"), ("raise ON", "raise OFF"), ("raise p", "give p"),
                           ("try / call x v.g / catch e / end", "call x v.g"), ("while ON is ON / end", "raise ON"),
                           ("while ON is ON / end", "give 1"), ("call x v.g / give 1", "give 1"), ("let x p + q", "let x p + 1"),
                           ("if p is ON / show q / end", "show q"), ("if p is ON / give 1 / end / give 2", "give p"),
                           
                           ("call x v.g 1 / call y v.g x", "call x v.g 1 / call y v.g 1"),
                           ("call x v.g 1 / if x is ON / call y v.g x / end", "call x v.g 1 / if x is OFF / call y v.g x / end"),
                           ("call x v.g / if x is ON / end", "call x v.g"),
                           ("call x v.g / if x is ON / give 1 / end", "call x v.g / if x is OFF / give 1 / end")):
            self.look_at_bodies(one, other, False)
            self.look_at_bodies(one, other, False, ("OFF", "ON", "A"))

    def test_worths_of_other_words(self):
        self.look_at_bodies("if p is ON / give 1 / end", "if p is NONE / give 1 / end", False, ("ON",))
        self.look_at_bodies("if p is ON / if p is OFF / show q / end / end", "show 1", False)
        self.look_at_bodies("if p is ON / else / if p is OFF / else / show q / end / end", "if p is ON / else / show q / end", False)

    def test_what_holds_and_gives_include(self):
        for test in ("x is ON", "p is ON", "e is ON", "x is BAD", "q is OFF"):
            head = "try / call x v.g p / catch e / end" if test[0] == "e" else "call x v.g p"
            inner = "try / call x v.g p / if {} / show p / end / catch e / if {} / show q / end / end"
            self.look_at_bodies(f"{head} / show p", f"call x v.g p / if {test.replace('e is', 'x is')} / show p / end", False)
            self.look_at_bodies(inner.format("0 < 1", test.replace("x is", "e is")), inner.format(test.replace("e is", "x is"), "0 < 1"), False)
            self.look_at_bodies(f"if {test.replace('x is', 'p is').replace('e is', 'q is')} / show q / end", "show q", False)

    def test_needs_alone(self):
        one = "call k v.g 0 / call x v.g p"
        other = "call k v.g 0 / if p is ON / call x v.g ON / end / if p is NONE / call z v.g NONE / end / if p is BAD / call s v.g BAD / end"
        self.look_at_bodies(one, other, False, ("ON",))
        found = parting(unit(f"unit u / open f p / {one} / end"), unit(f"unit u / open f p / {other} / end"))
        self.assertEqual(found[1:], (fact("needs u f 0"), 0))

    def test_wants_alone(self):
        other = " / ".join([f"if 0 < 1 / if p is {word} / give {word} / end / end" for word in ("ON", "NONE", "BAD")])
        texts = [f"unit u / open f p / {text} / give 0 / end" for text in ("if 0 < 1 / give p / end", other)]
        self.look(unit(texts[0]), unit(texts[1]), False)
        self.assertEqual(parting(unit(texts[0]), unit(texts[1]))[1:], (fact("needs u f 0"), 0))
        self.look(unit(texts[0].replace("give", "keep c", 1).replace("u /", "u / cell c ON /", 1)), unit(texts[0]), False)

    def test_functions_through_cells(self):
        texts = ("unit u / cell c {} / open f p / keep c p / end / open g / get x c / give x / end",
                 "unit u / cell c {} / open f p / end / open g / get x c / give x / end")
        self.look(unit(texts[0].format("ON")), unit(texts[1].format("ON")), False)
        self.look(unit(texts[0].format("ON")), unit(texts[0].format("BAD")), False)
        self.look(unit(texts[1].format("ON")), unit("unit u / open f p / end / open g / give ON / end"), True)

    def test_example(self):
        one, other = unit(B), unit(GIVING)
        self.look(one, other, False)
        self.assertIs(shows_parting(one, other, ((MAIN, C), fact("gives b g BAD"), 1)), True)
        self.assertIs(shows_parting(other=other, one=one, value=((C, MAIN), fact("gives b g BAD"), 1)), True)
        self.assertIs(alike(other=other, one=one), False)
        self.assertTrue(is_parted(one, other, parting(other=other, one=one)))

    def test_made_up_editions(self):
        counts = {True: 0, False: 0}
        for seed in range(25):
            maker = UnitMaker(seed, words=("ON",) if seed % 2 else ("ON", "OFF"), lines=(16, 30))
            luck = random.Random(seed)
            for _ in range(20):
                try:
                    other = Unit(maker.words, "\n".join(spoiled(maker.text.split("\n"), luck)))
                except BadUnit:
                    continue
                if self.are_editions(maker.unit, other):
                    same = summary(maker.unit) == summary(other)
                    counts[same] += 1
                    with self.subTest(maker.text, other=other.text):
                        self.look(maker.unit, other, same)
        self.assertGreater(min(counts.values()), 5)

    def are_editions(self, one, other):
        asks = {ask[:2]: ask[2] for ask in one.asks}
        return (one.name, one.opens) == (other.name, other.opens) and all(asks.get(ask[:2], ask[2]) == ask[2] for ask in other.asks)


class TestErrors(unittest.TestCase):
    def look(self, error, one, other, value=None):
        ways = [parting, lambda one, other: shows_parting(one, other, value)] + ([alike] if error is NotEditions else [])
        for way in ways:
            for first, second in ((one, other), (other, one)):
                with self.assertRaises(error) as caught:
                    way(first, second)
                self.assertEqual(getattr(caught.exception, "title", "main"), "main")

    def test_not_editions(self):
        b = unit(B)
        for other in ("unit c / open g / end", "unit b / open h / end", "unit b / open g p / end", "unit b / local g / end",
                      "unit b / open g / end / open h / end", "unit b / open g / call x c.h 1 / end",
                      "unit b / open g / end / local h / call x c.h 1 2 / end"):
            self.look(NotEditions, b, unit(other))
        self.look(NotEditions, b, unit(B, ("OFF",)))
        self.look(NotEditions, unit(B, ("ON", "OFF")), unit(B, ("OFF", "ON")))
        self.look(NotEditions, unit(B, ("ON", "OFF")), b)

    def test_no_room(self):
        main = unit("unit main / open g / end")
        calling = unit("unit b / open g / call x main.f / end")
        self.look(NoRoom, main, unit("unit main / open g / give 1 / end"))
        self.look(NoRoom, main, main)
        self.look(NoRoom, calling, calling)
        self.look(NoRoom, calling, unit(B))
        self.look(NoRoom, unit(B), calling, ((MAIN, C), fact("gives b g BAD"), 1))
        self.assertIs(alike(main, main), True)
        self.assertIs(alike(calling, unit(B)), False)

    def test_not_editions_first(self):
        main = unit("unit main / open g / end")
        self.look(NotEditions, main, unit("unit main / open g p / end"))
        self.look(NotEditions, main, unit(B))
        self.look(NotEditions, unit("unit b / open g / call x main.f / end"), unit("unit b / open g / call x main.f 1 / end"))

    def test_functions_called_main_leave_room(self):
        one, other = unit("unit b / open main / call x c.main / end"), unit("unit b / open main / end")
        self.assertTrue(is_parted(one, other, parting(one, other)))


class TestShowsParting(unittest.TestCase):
    def setUp(self):
        self.one, self.other = unit(B), unit(GIVING)
        self.fact = fact("gives b g BAD")

    def look(self, value, expected=False):
        with self.subTest(repr(value)):
            self.assertIs(shows_parting(self.one, self.other, value), expected)

    def test_right(self):
        self.look(((MAIN, C), self.fact, 1), True)
        self.look(((C, MAIN), self.fact, 1), True)
        self.look(((C, MAIN, "unit z\nopen z\nend"), self.fact, 1), True)
        self.look(((MAIN, C.replace("BAD", "0")), fact("gives b g num"), 1), True)
        self.look(((MAIN, C), fact("gives b g NONE"), 0), True)
        self.look(((MAIN.replace("y b.g", "y b.g\nshow y"), C), fact("wants c h"), 1), True)

    def test_other_facts(self):
        for text in ("gives b g ON", "gives b g num", "back b g", "called c h", "wants c h", "needs b g 0", "raises b g BAD"):
            self.look(((MAIN, C), fact(text), 1))
            self.look(((MAIN, C), fact(text), 0))
        # Facts of just one of both programs that are no outputs.
        for text in ("holds main main y BAD", "at b 5", "called b g"):
            self.look(((MAIN, C), fact(text), 1))
            self.look(((MAIN, C), fact(text), 0))

    def test_other_numbers(self):
        for which in (0, 2, -1, True, False, "1", None, [1], (1,), 10 ** 18):
            self.look(((MAIN, C), self.fact, which))

    def test_other_texts(self):
        for texts in ((), (MAIN,), (C,), (MAIN, C, C), (MAIN, C, spread(B)), (MAIN, MAIN, C), [MAIN, C], MAIN, (MAIN, C + "\n"),
                      (MAIN, C.replace("BAD", "OFF")), (MAIN, C.replace("open", "local")), (MAIN, C.replace("h", "h p")),
                      (MAIN, C, "unit z\nopen z\ncall x y.y\nend"), (MAIN.replace("open main", "open m"), C), (MAIN, C, None),
                      (MAIN, [C]), (MAIN, (C,)), (MAIN, 1), (MAIN, C, ""), (MAIN.replace("open main", "open main p"), C.replace("h", "j")),
                      (MAIN.replace("b.g", "b.g 1"), C), (MAIN.replace("open main", "local main"), C), (MAIN, C, True), None,
                      (unit(spread(MAIN)), C), {MAIN: 1, C: 2}):
            self.look((texts, self.fact, 1))

    def test_a_root_with_parameters_is_right(self):
        self.look(((MAIN.replace("open main", "open main p"), C), self.fact, 1), True)

    def test_other_kinds(self):
        for value in KINDS:
            self.look(value)
            self.look((value, self.fact, 1))
            self.look(((MAIN, C), value, 1))
            self.look(((MAIN, C), self.fact, value if value != 1 else None))
            self.look(((MAIN, C, value), self.fact, 1))
        right = ((MAIN, C), self.fact, 1)
        for value in (list(right), right + (None,), right[:2], (right,), right[::-1], (right[0], list(right[1]), 1),
                      (right[0], (right[1],), 1), {each: 1 for each in right}):
            self.look(value)


if __name__ == "__main__":
    unittest.main()

"""Inputs, outputs, what follows, and summaries."""

import itertools
import random
import unittest

from hungfacts.errors import BadInputs
from hungfacts.summaries import follows, inputs, outputs, summary
from tests import plain_summaries
from tests.helper import fact, unit
from tests.kinds import KINDS
from tests.makers import UnitMaker
from tests.plain_summaries import covers, includes, meets, plain_follows, plain_inputs, plain_outputs, plain_summary, worths_of
from tests.test_solving import SPOILED

B = "unit b / open g / call x c.h / end"
TWO = ("ON", "OFF")


def told(text):
    """An ascending tuple of facts or conditions, written with ", " between them."""
    return tuple(sorted([fact(each.strip()) for each in text.split(",")])) if text else ()


def spelled(*rows, words=("ON",)):
    """The facts of these rows, with ? for each worth and ! for each word."""
    found = []
    for row in rows:
        signs = words + ("NONE", "BAD") + (("num",) if "?" in row else ())
        found += [fact(row.replace("?", sign).replace("!", sign)) for sign in signs]
    return tuple(sorted(set(found)))


class TestBorder(unittest.TestCase):
    def look(self, text, ins, outs, words=("ON",)):
        some = unit(text, words)
        self.assertEqual(inputs(some), spelled(*ins, words=words))
        self.assertEqual(outputs(some), spelled(*outs, words=words))
        self.assertEqual((list(inputs(unit=some)), list(outputs(unit=some))), (plain_inputs(some), plain_outputs(some)))

    def test_no_calls(self):
        for words in (("ON",), TWO):
            self.look("unit u / open f / end", ["called u f", "wants u f"], ["back u f", "gives u f ?", "raises u f !"], words)

    def test_local_functions_are_left_out(self):
        text = "unit u / local l p / call x v.g p / end / open f / call y l ON / end"
        self.look(text, ["called u f", "wants u f", "back v g", "gives v g ?", "raises v g !", "needs v g 0"],
                  ["back u f", "gives u f ?", "raises u f !", "called v g", "wants v g", "holds v g 0 ?"])

    def test_parameters_and_several_functions(self):
        text = "unit u / open f p q / call x v.g / call y w.g p 1 / call z v.g / end / open a r / end"
        ins = ["called u f", "wants u f", "holds u f 0 ?", "holds u f 1 ?", "called u a", "wants u a", "holds u a 0 ?", "back v g",
               "gives v g ?", "raises v g !", "back w g", "gives w g ?", "raises w g !", "needs w g 0", "needs w g 1"]
        outs = ["back u f", "gives u f ?", "raises u f !", "needs u f 0", "needs u f 1", "back u a", "gives u a ?", "raises u a !",
                "needs u a 0", "called v g", "wants v g", "called w g", "wants w g", "holds w g 0 ?", "holds w g 1 ?"]
        for words in (("ON",), TWO, ("A", "ON", "OFF")):
            self.look(text, ins, outs, words)

    def test_no_open_function(self):
        self.look("unit u / local l / call x v.g / end", ["back v g", "gives v g ?", "raises v g !"], ["called v g", "wants v g"])

    def test_lines_that_are_never_reached(self):
        self.look("unit u / open f / give 1 / call x v.g / end", ["called u f", "wants u f", "back v g", "gives v g ?", "raises v g !"],
                  ["back u f", "gives u f ?", "raises u f !", "called v g", "wants v g"])


class TestFollows(unittest.TestCase):
    def look(self, some, given, expected):
        self.assertEqual(follows(some, told(given)), told(expected))

    def test_by_hand(self):
        b = unit(B)
        self.look(b, "", "")
        self.look(b, "called b g", "called c h")
        self.look(b, "back c h, gives c h ON", "")
        self.look(b, "called b g, back c h, gives c h ON", "called c h, back b g, gives b g NONE")
        self.look(b, "called b g, raises c h BAD", "called c h, raises b g BAD")
        self.look(b, "raises c h BAD, raises c h ON", "")
        self.look(b, "called b g, wants b g", "called c h")

    def test_needs_and_wants(self):
        k = unit("unit k / open k p / call x v.g p / give x / end")
        self.look(k, "called k k, holds k k 0 ON", "called v g, holds v g 0 ON")
        self.look(k, "called k k, holds k k 0 ON, holds k k 0 num, needs v g 0",
                  "called v g, holds v g 0 ON, holds v g 0 num, needs k k 0")
        self.look(k, "called k k, wants k k, holds k k 0 BAD, back v g, gives v g NONE",
                  "called v g, holds v g 0 BAD, wants v g, back k k, gives k k NONE")

    def test_all_inputs(self):
        for text in (B, "unit k / open k p / call x v.g p / give x / end", "unit u / cell c ON / open f p q / keep c p / end"):
            some = unit(text)
            self.assertEqual(follows(some, inputs(some)), plain_follows(some, inputs(some)))
            self.assertEqual(follows(unit=some, some=()), ())

    def test_possible_sets_of_made_up_units(self):
        for seed in range(40):
            some = UnitMaker(seed, lines=(4, 16)).unit
            luck = random.Random(seed)
            for _ in range(6):
                given = some_possible(some, luck)
                self.assertEqual(follows(some, given), plain_follows(some, given))

    def wrong(self, some, value):
        with self.subTest(repr(value)):
            with self.assertRaises(BadInputs) as caught:
                follows(some, value)
            self.assertIs(caught.exception.value, value)

    def test_not_possible(self):
        some = unit("unit u / open f p q / call x v.g 1 / end / open h / end")
        for text in ("called u f", "called u f, holds u f 0 ON", "called u f, holds u f 1 num", "wants u f", "holds u f 0 ON",
                     "holds u f 0 ON, holds u f 1 ON", "wants u h", "back v g", "gives v g ON", "gives v g num, called u h",
                     "called u f, holds u f 0 ON, holds u f 1 ON, back v g", "called u h, wants u f"):
            self.wrong(some, told(text))
        for text in ("called u f, holds u f 0 ON, holds u f 1 ON", "called u h, wants u h", "needs v g 0", "raises v g BAD"):
            self.assertEqual(follows(some, told(text)), plain_follows(some, told(text)))

    def test_no_inputs(self):
        b = unit(B)
        for text in ("at b 3", "called c h", "back b g", "wants c h", "called b h", "gives b g ON", "called c g", "raises c h num",
                     "needs c h 0", "holds b g 0 ON", "holds b g x NONE", "unlike b g 0 ON"):
            self.wrong(b, told(text))
            self.wrong(b, tuple(sorted(told("called b g") + told(text))))

    def test_not_ascending(self):
        right = told("called b g, back c h, gives c h ON, wants b g")
        for value in (right[::-1], right[1:] + right[:1], right + right[-1:], right[:1] + right):
            self.wrong(unit(B), value)

    def test_any_value(self):
        for value in KINDS:
            if value != ():
                self.wrong(unit(B), value)
        right = told("called b g, back c h, gives c h ON")
        for spoil in SPOILED:
            self.wrong(unit(B), spoil(right))


def some_possible(some, luck):
    """A possible set of inputs of a unit."""
    chance = luck.random()
    found = {each for each in inputs(some) if luck.random() < chance}
    for f, many in some.opens:
        if luck.random() < 0.3:
            found -= {each for each in found if each[0] in ("called", "wants", "holds") and each[1:3] == (some.name, f)}
        elif any(each[1:3] == (some.name, f) for each in found):
            found |= {("called", some.name, f)}
            found |= {("holds", some.name, f, str(i), luck.choice(worths_of(some))) for i in range(many)}
    for v, g, _ in some.asks:
        if luck.random() < 0.3:
            found -= {each for each in found if each[0] in ("back", "gives") and each[1:3] == (v, g)}
        elif any(each[:3] in (("gives", v, g), ("back", v, g)) for each in found):
            found |= {("back", v, g), ("gives", v, g, luck.choice(worths_of(some)))}
    return tuple(sorted(found))


class TestSummary(unittest.TestCase):
    maxDiff = None

    def look(self, text, rows, words=("ON",)):
        """The summary has for each output of rows these cases, one text for each."""
        found = dict(summary(unit(text, words)))
        for output, cases in rows.items():
            self.assertEqual(found.get(fact(output), ()), tuple(sorted([told(case) for case in cases])), output)
        return found

    def test_b(self):
        rows = {"back b g": ["back c h, called b g"], "called c h": ["called b g"], "gives b g NONE": ["back c h, called b g"]}
        rows.update({f"raises b g {word}": [f"called b g, raises c h {word}"] for word in ("ON", "NONE", "BAD")})
        self.assertEqual(len(self.look(B, rows)), 6)
        self.assertEqual(summary(unit=unit(B)), summary(unit(B)))

    def test_all_worths_lead_to_it(self):
        text = "unit u / open f p / if p is ON / give OFF / else / give OFF / end / end"
        self.look(text, {"gives u f OFF": ["called u f"], "needs u f 0": ["holds u f 0 ON, unlike u f 0 ON"], "gives u f ON": [],
                         "gives u f NONE": [], "back u f": ["called u f"]}, TWO)

    def test_three_cases(self):
        text = "unit k / open k p q / if p is ON / give q / end / call x v.g q / give x / end"
        self.look(text, {"gives k k ON": ["holds k k 0 ON, holds k k 1 ON", "gives v g ON, unlike k k 0 ON",
                                          "gives v g ON, holds k k 1 ON"]})

    def test_num_beside_words(self):
        text = "unit u / open f p / let x p + 1 / give x / end"
        self.look(text, {"gives u f num": ["holds u f 0 num"], "raises u f BAD": ["unlike u f 0 num"], "raises u f ON": [],
                         "needs u f 0": ["unlike u f 0 num", "wants u f"]})
        self.look("unit u / open f p / give p / end", {"gives u f num": ["holds u f 0 num"], "needs u f 0": ["wants u f"],
                                                       "back u f": ["called u f"]})

    def test_other(self):
        text = "unit u / open f / call x v.g / if x is ON / raise NONE / end / show 1 / end"
        self.look(text, {"raises u f NONE": ["called u f, gives v g ON", "called u f, raises v g NONE"], "back u f":
                         ["called u f, other v g ON"], "wants v g": ["called u f, gives v g ON, other v g ON"]})

    def test_two_unlikes(self):
        text = "unit u / open f p / if p is ON / else / if p is NONE / else / raise p / end / end / end"
        self.look(text, {"raises u f BAD": ["holds u f 0 BAD", "holds u f 0 num"], "back u f":
                         ["holds u f 0 ON", "holds u f 0 NONE"], "raises u f ON": ["holds u f 0 ON, unlike u f 0 ON"]})

    def test_what_never_follows(self):
        self.assertEqual(summary(unit("unit u / local f / call x v.g / end")), ())
        self.assertEqual([output for output, _ in summary(unit("unit u / open f / give 1 / call x v.g / end"))],
                         [fact("back u f"), fact("gives u f num")])

    def test_cells_between_functions(self):
        text = "unit u / cell c NONE / open f p / keep c p / end / open g / get x c / give x / end"
        self.look(text, {"gives u g ON": ["called u g, holds u f 0 ON"], "gives u g NONE": ["called u g"],
                         "needs u f 0": ["called u f, wants u g"]})

    def test_small_units_by_all_possible_sets(self):
        texts = ["unit u / open f p / call x v.g / if p is ON / give x / end / end",
                 "unit u / open f / call x v.g / if x is ON / raise x / end / give x / end",
                 "unit u / open f / try / call x v.g / catch e / if e is BAD / give 1 / end / raise e / end / end",
                 "unit u / open f p / if p is ON / if p is NONE / give 1 / end / give p / end / end",
                 "unit u / open f p q / if p is ON / give q / end / if q is BAD / raise p / end / show p / end",
                 "unit u / open f p / if p is ON / if p is NONE / raise ON / end / end / if p is BAD / if p < 1 / raise ON / end / end / end",
                 "unit u / open f p / if p is BAD / if p is ON / raise ON / end / if p is NONE / raise ON / end / call x v.g / end"
                 " / if p < 0 / if p is ON / raise ON / end / if p is NONE / raise ON / end / call y v.g / end / end"]
        for text in texts:
            some = unit(text)
            self.assertEqual(summary(some), plain_summary(some))

    def test_small_made_up_units_by_all_possible_sets(self):
        small = {"params": (2, 3), "asks": (0, 1)}, {"params": (0, 1), "asks": (1, 2), "operands": (0, 2)}
        both = {"params": (1, 2), "asks": (1, 2), "operands": (0, 1)}
        kinds = {}
        for seed in range(40):
            maker = UnitMaker(seed, opens=(1, 2), words=("ON",), lines=(7, 16), **(small[seed % 2] if seed % 16 else both))
            with self.subTest(maker.text):
                found = summary(maker.unit)
                self.assertEqual(found, plain_summary(maker.unit))
                for condition in [each for _, cases in found for case in cases for each in case]:
                    kinds[condition[0]] = kinds.get(condition[0], 0) + 1
        self.assertGreater(min(kinds["unlike"], kinds["other"], kinds["wants"], kinds["raises"]), 1)


class TestMadeUpSummaries(unittest.TestCase):
    """Units of more functions: an output follows from a possible set exactly if one of its cases is met."""

    def test_made_up_units(self):
        for seed in range(60):
            maker = UnitMaker(seed, words=TWO if seed % 2 else ("ON",))
            some, luck = maker.unit, random.Random(seed)
            with self.subTest(maker.text):
                found = summary(some)
                self.look_at_form(some, found)
                for _ in range(12):
                    given = some_possible(some, luck)
                    met = [output for output, cases in found
                           if any(all(meets(given, each) for each in case) for case in cases)]
                    self.assertEqual(follows(some, given), tuple(met))

    def look_at_form(self, some, found):
        self.assertEqual([output for output, _ in found], sorted({output for output, _ in found} & set(outputs(some))))
        for _, cases in found:
            self.assertTrue(cases)
            self.assertEqual(list(cases), sorted(set(cases)))
            for case in cases:
                self.assertEqual(list(case), sorted(set(case)))
                self.assertFalse(any(includes(one, other) for one in case for other in case))
            self.assertFalse(any(covers(one, other) for one in cases for other in cases if one != other))

    def test_a_weaker_case_does_not_lead(self):
        looked = 0
        for seed in range(40):
            maker = UnitMaker(seed, words=("ON",))
            for output, cases in summary(maker.unit):
                for case in cases[:2]:
                    for weaker in self.weaker(maker.unit, case):
                        least = list(itertools.islice(self.least_sets(maker.unit, weaker), 200))
                        if len(least) < 200:
                            looked += 1
                            self.assertFalse(all(output in plain_follows(maker.unit, given) for given in least))
        self.assertGreater(looked, 100)

    def weaker(self, some, case):
        for each in case:
            rest = tuple(other for other in case if other != each)
            kept = [other for other in plain_summaries.all_conditions(some) if includes(each, other)]
            direct = [other for other in kept if not any(includes(more, other) for more in kept)]
            for count in ([len(direct)] if direct else [0]):
                yield rest + tuple(direct[:count])

    def least_sets(self, some, case):
        """All least possible sets that meet a case."""
        wide = set(case) | {each for each in plain_summaries.all_conditions(some) if any(includes(one, each) for one in case)}
        worths = worths_of(some)
        slots = [("holds", some.name, f, str(i)) for f, many in some.opens if ("called", some.name, f) in wide for i in range(many)]
        slots += [("gives", v, g) for v, g, _ in some.asks if ("back", v, g) in wide]
        ways = []
        for slot in slots:
            but = {"holds": "unlike", "gives": "other"}[slot[0]]
            right = []
            for some_worths in itertools.chain(*[itertools.combinations(worths, k) for k in (1, 2, 3, 4)]):
                given = [slot + (worth,) for worth in some_worths]
                asked = [each for each in case if each[:len(slot)] in (slot, (but,) + slot[1:])]
                if all(meets(given, each) for each in asked) and not any(set(less) <= set(given) for less in right):
                    right.append(given)
            ways.append(right)
        plain = {each for each in wide if each[0] not in ("unlike", "other")}
        for chosen in itertools.product(*ways):
            yield tuple(sorted(plain.union(*chosen)))


if __name__ == "__main__":
    unittest.main()

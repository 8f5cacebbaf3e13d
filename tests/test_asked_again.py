"""The same Program and the same Unit, asked many times in turn, answer each time as new ones do."""

import itertools
import random
import unittest

from hungfacts.clauses import clauses, unit_clauses
from hungfacts.errors import BadBudget, BadInputs, BadOrder, BadQuestion, HungError, NoUnit
from hungfacts.making import Made, made
from hungfacts.parting import alike, parting, shows_parting
from hungfacts.programs import Program
from hungfacts.questions import answer
from hungfacts.runs import met, run, steps
from hungfacts.solving import closed, facts, shows_closed, shows_way, way
from hungfacts.stages import ring, shows_ring, staged
from hungfacts.summaries import follows, inputs, joined, outputs, summary
from hungfacts.units import Unit
from tests.helper import program, unit
from tests.kinds import KINDS
from tests.makers import ProgramMaker, UnitMaker
from tests.test_compare import spoiled
from tests.test_sizes import SizeTest, big_programs

ORDERS = tuple(itertools.permutations(("flow", "worth", "need")))


def told(look, *given, **named):
    """What a call returns, or the error that it raises, with what this keeps."""
    try:
        found = look(*given, **named)
    except HungError as error:
        return type(error).__name__, vars(error)
    return (found.text, found.origins, found.asked) if isinstance(found, Made) else found


def listed_steps(*given):
    return list(steps(*given))


def again(some):
    """A new program of equal texts."""
    return Program(tuple([Unit(each.words, each.text) for each in some.units]), some.roots)


def questions_of(some):
    """All questions about the units, functions, names, cells and lines of a program, and some others."""
    found = []
    for each in some.units:
        for line in range(len(each.lines) + 2):
            found += [(kind, each.name, line) for kind in ("reached", "fails", "ways", "caught", "put")]
        for function in [function.name for function in each.functions] + ["none"]:
            found += [(kind, each.name, function) for kind in ("called", "wanted", "body")]
            found += [("words", each.name, function, k) for k in range(4)]
            for name in ("0", "1", "x", "y", "e"):
                found += [(kind, each.name, function, name) for kind in ("needed", "only")]
        found += [("read", each.name, cell) for cell in ("c", "d", "none")]
    return found


def program_calls(some, luck):
    """Calls of all functions that take a program, as (function, what is given behind it, what is named)."""
    heads = sorted({head for head, _ in clauses(again(some))})
    asked = luck.sample(heads, min(12, len(heads))) + [("at", "a", 99), ("at", "a", True), None, [1]]
    found = [(clauses, (), {}), (facts, (), {})]
    for each in asked:
        shown = [told(way, again(some), each), told(closed, again(some), each)]
        found += [(way, (each,), {}), (closed, (each,), {})]
        found += [(look, (each, value), {}) for value in shown + [()] for look in (shows_way, shows_closed)]
    for order in ORDERS + (("flow",), None, [1]):
        found += [(staged, (order,), {}), (ring, (order,), {})]
    ringed = told(ring, again(some), ORDERS[0])
    found += [(shows_ring, (value,), {}) for value in (ringed, ringed[1:], ringed[:-1], None, [])]
    for budget in (0, 1, 2, 5, 99, True, -1, None):
        found += [(made, (name,), {"budget": budget}) for name in some.names + ("none", None)]
        found += [(answer, (each,), {"budget": budget}) for each in luck.sample(questions_of(some), 20) + [None, ("at",)]]
    for root in some.roots:
        values = tuple([luck.choice(("ON", "NONE", 0, 3)) for _ in range(dict(some.unit(root[0]).opens)[root[1]])])
        found += [(look, (root, values, most), {}) for most in (1, 9, 60) for look in (run, met, listed_steps)]
    return found


def unit_calls(some, other, luck):
    """Calls of all functions that take a unit, as (function, what is given behind it)."""
    every = inputs(Unit(some.words, some.text))
    found = [(unit_clauses, ()), (inputs, ()), (outputs, ()), (summary, ()), (follows, (every,)), (follows, (None,))]
    for _ in range(12):
        found.append((follows, (tuple(sorted(luck.sample(every, luck.randrange(len(every) + 1)))),)))
    for each in (other, some):
        value = told(parting, Unit(some.words, some.text), Unit(each.words, each.text))
        found += [(alike, (each,)), (parting, (each,))]
        found += [(shows_parting, (each, shown)) for shown in (value, value and value[:2] + (1 - value[-1],), None)]
    return found


class TestAskedAgain(unittest.TestCase):
    def test_programs(self):
        for seed in range(12):
            luck = random.Random(seed)
            some = ProgramMaker(seed, lines=(4, 24), small=0.5).program
            asked = program_calls(some, luck)
            expected = [told(look, again(some), *given, **named) for look, given, named in asked]
            for _ in range(3):
                turn = list(range(len(asked)))
                luck.shuffle(turn)
                for at in turn:
                    look, given, named = asked[at]
                    self.assertEqual(told(look, some, *given, **named), expected[at], (seed, look, given, named))
                    self.assertEqual(told(look, some, *given, **named), expected[at])
                self.assertEqual(some, again(some))
                self.assertEqual(again(some), some)

    def test_all_questions(self):
        for seed in range(8):
            some = ProgramMaker(seed, lines=(4, 20), small=0.5).program
            for budget in (0, 2, 99):
                for question in questions_of(some):
                    self.assertEqual(answer(some, question, budget=budget), answer(some, question, budget=budget))
                for question in questions_of(some)[::7]:
                    self.assertEqual(answer(some, question, budget=budget), answer(again(some), question, budget=budget))

    def test_units(self):
        for seed in range(30):
            luck = random.Random(seed)
            maker = UnitMaker(seed, lines=(4, 14))
            some, other = maker.unit, maker.unit
            for turn in range(20):
                try:
                    other = Unit(maker.words, "\n".join(spoiled(maker.text.split("\n"), random.Random(turn))))
                except HungError:
                    continue
            asked = unit_calls(some, other, luck)
            expected = [told(look, Unit(some.words, some.text), *given) for look, given in asked]
            for _ in range(3):
                turn = list(range(len(asked)))
                luck.shuffle(turn)
                for at in turn:
                    look, given = asked[at]
                    self.assertEqual(told(look, some, *given), expected[at], (seed, look, given))
                self.assertEqual(some, Unit(some.words, some.text))

    def test_units_that_were_asked_in_other_programs(self):
        a = unit("unit a / open f / call x b.g ON / show x / end")
        texts = ("unit b / open g p / give p / end", "unit b / open g p / raise BAD / end", "unit b / open g p / end")
        for _ in range(2):
            for text in texts:
                some = Program((a, unit(text)), (("a", "f"),))
                self.assertEqual(facts(some), facts(again(some)))
                self.assertEqual(made(some, "a", budget=1), made(again(some), "a", budget=1))
                self.assertEqual(joined(some.units, some.roots), joined(again(some).units, some.roots))
        for roots in ((("a", "f"),), (("b", "g"),), (("a", "f"), ("b", "g"))):
            some = Program((a, unit(texts[0])), roots)
            self.assertEqual(joined(some.units, roots), joined(again(some).units, roots))
            self.assertEqual(facts(some), facts(again(some)))

    def test_errors_stay(self):
        some = program(("unit a / open f p / show p / end",), (("a", "f"),))
        for _ in range(3):
            for value in KINDS:
                if value not in ("a",):
                    with self.assertRaises(NoUnit) as caught:
                        made(some, value, budget=value)
                    self.assertIs(caught.exception.value, value)
                with self.assertRaises(BadOrder):
                    staged(some, value)
                with self.assertRaises(BadQuestion):
                    answer(some, ("called", value), budget=None)
                if value != ():
                    with self.assertRaises(BadInputs) as caught:
                        follows(some.units[0], value)
                    self.assertIs(caught.exception.value, value)
            for budget in (True, False, None, -1, 100, (0,), "0"):
                with self.assertRaises(BadBudget):
                    made(some, "a", budget=budget)
                with self.assertRaises(BadBudget):
                    answer(some, ("called", "a", "f"), budget=budget)

    def test_budgets_are_told_apart(self):
        texts = ("unit a / open f / call x b.g / call y b.g / show y / end", "unit b / open g / give ON / end")
        some = program(texts, (("a", "f"),))
        put = [answer(some, ("put", "a", line), budget=budget) for budget in (0, 1, 2, 1, 0) for line in (3, 4)]
        self.assertEqual(" ".join(put), "no no yes no yes yes yes no no no")
        many = [made(some, "a", budget=budget).text.count("call") for budget in (2, 0, 1, 0, 2)]
        self.assertEqual(many, [0, 2, 1, 2, 0])

    def test_what_was_returned_is_of_no_weight(self):
        some = program(("unit a / open f p / show p / end",), (("a", "f"),))
        found = made(some, "a")
        text = found.text
        found.text, found.origins, found.asked = "", (), ()
        self.assertEqual(made(some, "a").text, text)
        self.assertEqual(made(some, "a"), made(again(some), "a"))


class TestEquality(unittest.TestCase):
    def test_units(self):
        text = "unit a / open f p / show p / end"
        asked, fresh = unit(text), unit(text)
        others = [unit(text, ("OFF",)), unit(text, ("ON", "OFF")), unit(text.replace(" p", " q")), unit("unit b / open f p / show p / end")]
        for look in (summary, inputs, outputs, unit_clauses):
            look(asked)
            self.assertTrue(asked == fresh and fresh == asked)
            for other in others:
                look(other)
                self.assertFalse(asked == other or other == asked)
        for value in KINDS:
            self.assertFalse(asked == value)

    def test_programs(self):
        texts = ("unit a / open f / end", "unit b / open g / end")
        asked, fresh = program(texts, (("a", "f"),)), program(texts[::-1], (("a", "f"),))
        others = [program(texts, (("b", "g"),)), program(texts[:1], (("a", "f"),)), program(texts, (("a", "f"),), ("OFF",)),
                  program(texts, (("a", "f"), ("b", "g"))), program((texts[0], "unit b / open g p / end"), (("a", "f"),))]
        for look in (facts, clauses, lambda some: made(some, "a"), lambda some: staged(some, ORDERS[0])):
            look(asked)
            self.assertTrue(asked == fresh and fresh == asked)
            for other in others:
                look(other)
                self.assertFalse(asked == other or other == asked)
        for value in KINDS:
            self.assertFalse(asked == value)


class TestManyCalls(SizeTest):
    """Where each call went through all clauses anew, these would take far longer than they may."""

    def test_answers(self):
        some = big_programs()[0].program
        asked = (questions_of(some) * 10)[:10000]
        self.soon(lambda: [answer(some, question) for question in asked])

    def test_ways(self):
        some = big_programs()[1].program
        known = [each for each, _ in facts(some)]
        self.soon(lambda: [shows_way(some, each, way(some, each)) for each in known])

    def test_summaries(self):
        some = UnitMaker(1, opens=(2, 3), asks=(3, 4), lines=(25, 30), params=(2, 3)).unit
        self.soon(lambda: [summary(some) for _ in range(5000)])
        self.soon(lambda: [follows(some, ()) for _ in range(5000)])


if __name__ == "__main__":
    unittest.main()

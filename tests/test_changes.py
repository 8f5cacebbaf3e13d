"""Changes between programs."""

import random
import unittest

from hungfacts.changes import Change
from hungfacts.errors import BadBudget, OtherWords
from hungfacts.making import made
from hungfacts.questions import answer
from hungfacts.solving import facts
from tests.edits import edited
from tests.helper import program
from tests.kinds import KINDS
from tests.makers import ProgramMaker
from tests.test_solving import FOUR, LESS, MAIN

ROOTS = (("a", "f"),)
WORDS = ("ON", "OFF")


def some(*texts, roots=ROOTS, words=WORDS):
    return program(texts, roots, words)


class TestByHand(unittest.TestCase):
    maxDiff = None

    def look(self, elder, newer, anew, kept, gone="", budget=0):
        change = Change(elder, newer, budget=budget)
        self.assertEqual([change.elder, change.newer], [elder, newer])
        self.assertEqual(change.anew, anew)
        self.assertEqual([" ".join(change.kept), " ".join(change.gone)], [kept, gone])
        return change

    def test_section_15(self):
        elder, newer = program(FOUR, MAIN), program(LESS, MAIN)
        change = self.look(elder, newer, (("b", ("answer", ("called", "b", "g"), "yes", "no")),
                                          ("c", ("answer", ("called", "c", "h"), "yes", "no")),
                                          ("k", ("answer", ("ways", "k", 3), "both", "no")), ("m", ("text",))), "")
        self.assertEqual(change.came, (("back", "m", "main"), ("gives", "m", "main", "NONE")))
        self.assertEqual(change.fell, (
            ("at", "b", 3), ("at", "c", 3), ("at", "c", 4), ("at", "k", 4), ("called", "b", "g"), ("called", "c", "h"),
            ("holds", "c", "h", "x", "ON"), ("holds", "k", "k", "0", "NONE"), ("needs", "k", "k", "0"), ("raises", "b", "g", "BAD"), ("raises", "c", "h", "BAD"),
            ("raises", "k", "k", "BAD"), ("raises", "m", "main", "BAD"), ("yes", "k", 3)))

    def test_the_other_way_about(self):
        elder, newer = program(LESS, MAIN), program(FOUR, MAIN)
        change = self.look(elder, newer, (("b", ("answer", ("called", "b", "g"), "no", "yes")),
                                          ("c", ("answer", ("called", "c", "h"), "no", "yes")),
                                          ("k", ("answer", ("ways", "k", 3), "no", "both")), ("m", ("text",))), "")
        self.assertEqual([change.came, change.fell], [Change(newer, elder).fell, Change(newer, elder).came])

    def test_nothing(self):
        elder = program(FOUR, MAIN)
        change = self.look(elder, program(FOUR[::-1], MAIN), (), "b c k m")
        self.assertEqual([change.came, change.fell], [(), ()])

    def test_new_and_gone(self):
        a = "unit a / open f p / show p / end"
        b = "unit b / open g / end"
        c = "unit c / cell c ON / open g / end"
        change = self.look(some(a, b), some(a, c), (("c", ("new",)),), "a", "b")
        self.assertEqual(change.came, (("keeps", "c", "c", "ON"),))
        change = self.look(some(a, c), some(a, b), (("b", ("new",)),), "a", "c")
        self.assertEqual(change.fell, (("keeps", "c", "c", "ON"),))
        self.look(some(a, b, c), some(a), (), "a", "b c")

    def test_text_goes_ahead_of_answers(self):
        a = "unit a / open f p / call x b.g p / end"
        b = "unit b / open g q / show q / end"
        self.look(some(a, b), some(a, b.replace("show q", "show 1")), (("a", ("answer", ("needed", "b", "g", "0"), "yes", "no")),
                                                                      ("b", ("text",))), "")

    def test_unit_that_is_kept_though_facts_change(self):
        a = "unit a / open f p / call x b.g p / call y c.h p / end"
        b, c = "unit b / open g q / show q / end", "unit c / open h r / show r / end"
        change = self.look(some(a, b, c), some(a, b, c.replace("show r", "show 1 / show r")), (("c", ("text",)),), "a b")
        self.assertEqual([change.came, change.fell], [(("at", "c", 5),), ()])
        change = self.look(some(a, b, c), some(a.replace("c.h p", "c.h 1"), b, c), (("a", ("text",)),), "b c")
        self.assertEqual(change.came, ())
        self.assertEqual({fact[0] for fact in change.fell}, {"holds"})

    def test_first_question_that_is_answered_otherwise(self):
        a = "unit a / open f p / call x b.g p / show x / if x is ON / show 1 / end / end"
        b = "unit b / open g q / give q / end"
        self.look(some(a, b), some(a, b.replace("give q", "give ON")),
                  (("a", ("answer", ("needed", "b", "g", "0"), "yes", "no")), ("b", ("text",))), "")
        self.look(some(a, b), some(a, b.replace("give q", "show q / give ON")),
                  (("a", ("answer", ("only", "a", "f", "x"), "-", "ON")), ("b", ("text",))), "")
        self.look(some(a, b), some(a, b.replace("give q", "show q / if 0 < 1 / give ON / end / give 3")), (("b", ("text",)),), "a")

    def test_body_and_words(self):
        a = "unit a / open f p / call x b.g p / show x / end"
        b = "unit b / open g q / show q / give q / end"
        self.look(some(a, b), some(a, b.replace("show q", "show 1")), (("a", ("answer", ("words", "b", "g", 0), "show q", "show 1")),
                                                                      ("b", ("text",))), "", budget=1)
        self.look(some(a, b), some(a, b.replace("open g", "cell c ON / open g")),
                  (("a", ("answer", ("body", "b", "g"), "2 q show give", "3 q show give")), ("b", ("text",))), "", budget=1)
        self.look(some(a, b), some(a, b.replace("give q", "show q / show q / give q")), (
            ("a", ("answer", ("put", "a", 3), "yes", "no")), ("b", ("text",))), "", budget=1)
        self.look(some(a, b), some(a, b.replace("open g", "cell c ON / open g")), (("b", ("text",)),), "a")

    def test_budget(self):
        a = "unit a / open e / call x b.g 1 / end / open f p / call x b.g p / show x / end"
        b = "unit b / open g q / show q / give q / end"
        elder, newer = some(a, b), some(a, b, roots=(("a", "e"), ("a", "f")))
        self.look(elder, newer, (("a", ("answer", ("called", "a", "e"), "no", "yes")),), "b", budget=1)
        c = "unit c / open e / call y a.e / end"
        self.look(some(a, b, c, roots=(("a", "f"), ("c", "e"))), some(a, b, c), (
            ("a", ("answer", ("called", "a", "e"), "yes", "no")), ("c", ("answer", ("called", "c", "e"), "yes", "no"))), "b", budget=1)

    def test_attributes_are_set(self):
        change = Change(program(FOUR, MAIN), program(LESS, MAIN))
        for name in ("elder", "newer", "came", "fell", "anew", "kept", "gone"):
            self.assertIn(name, vars(change))


class TestErrors(unittest.TestCase):
    def test_other_words(self):
        text = "unit a / open f / end"
        for words in (("OFF",), ("OFF", "ON"), ("ON", "OFF", "A")):
            for budget in (0, None, 100):
                self.assertRaises(OtherWords, Change, some(text), some(text, words=words), budget=budget)
                self.assertRaises(OtherWords, Change, some(text, words=words), some(text), budget=budget)

    def test_budgets(self):
        one = some("unit a / open f / end")
        for value in KINDS + (-1, 100):
            if value in (0, 1, 99) and not isinstance(value, bool):
                Change(one, one, budget=value)
                continue
            for other in (one, some("unit a / open f / show 1 / end"), some("unit b / open f / end", roots=(("b", "f"),))):
                with self.assertRaises(BadBudget) as caught:
                    Change(one, other, budget=value)
                self.assertIs(caught.exception.value, value)

    def test_budget_is_0(self):
        a, b = "unit a / open f p / call x b.g p / show x / end", "unit b / open g q / show q / give q / end"
        one, other = some(a, b), some(a, b.replace("show q", "show 1 / show q"))
        self.assertEqual(Change(one, other).anew, Change(one, other, budget=0).anew)
        self.assertNotEqual(Change(one, other).anew, Change(one, other, budget=1).anew)

    def test_names_of_arguments(self):
        one, other = program(FOUR, MAIN), program(LESS, MAIN)
        self.assertEqual(Change(elder=one, newer=other, budget=1), Change(one, other, budget=1))
        self.assertRaises(TypeError, Change, one, other, 1)

    def test_equal_calls(self):
        one, other = program(FOUR, MAIN), program(LESS, MAIN)
        self.assertTrue(Change(one, other) == Change(program(FOUR, MAIN), other))
        self.assertFalse(Change(one, other) == Change(other, one))
        self.assertFalse(Change(one, other) == Change(one, one))
        text, more = "unit a / open f / end", " / open g / end"
        three = [some(text + more.replace("end", f"show {k} / end")) for k in range(3)]
        self.assertEqual(len({Change(elder, newer).anew for elder in three for newer in three if elder != newer}), 1)
        for given in ((0, 1), (0, 2), (1, 2)):
            for others in ((0, 1), (0, 2), (1, 2)):
                changes = [Change(three[one], three[other]) for one, other in (given, others)]
                self.assertEqual(changes[0] == changes[1], given == others)
        for value in KINDS:
            self.assertFalse(Change(one, other) == value)


class TestCompare(unittest.TestCase):
    def test_made_up_edits(self):
        seen = {}
        for seed in range(100):
            luck = random.Random(seed)
            elder = ProgramMaker(seed, lines=(3, 30), small=0.5).program
            newer = edited(elder, luck)
            budget = luck.choice((0, 1, 2, 99))
            for before, behind in ((elder, newer), (newer, elder)):
                change = Change(before, behind, budget=budget)
                known, now = dict(facts(before)), dict(facts(behind))
                self.assertEqual(change.came, tuple(sorted(set(now) - set(known))))
                self.assertEqual(change.fell, tuple(sorted(set(known) - set(now))))
                self.assertEqual(change.gone, tuple(sorted(set(before.names) - set(behind.names))))
                self.assertEqual(sorted(change.kept + tuple([name for name, _ in change.anew])), list(behind.names))
                self.assertEqual([list(change.kept), list(change.anew)], [sorted(change.kept), sorted(change.anew)])
                for name in change.kept:
                    self.assertEqual(made(before, name, budget=budget), made(behind, name, budget=budget))
                for name, reason in change.anew:
                    seen[reason[0]] = seen.get(reason[0], 0) + 1
                    self.assertEqual(reason, self.reason(before, behind, name, budget))
        self.assertGreater(min(seen.values()), 5)
        self.assertEqual(set(seen), {"new", "text", "answer"})

    def reason(self, before, behind, name, budget):
        if name not in before.names:
            return ("new",)
        if before.unit(name) != behind.unit(name):
            return ("text",)
        for question, told in made(before, name, budget=budget).asked:
            now = answer(behind, question, budget=budget)
            if now != told:
                return ("answer", question, told, now)
        raise AssertionError(name)


if __name__ == "__main__":
    unittest.main()

"""Why units were made anew."""

import random
import unittest

from hungfacts.changes import Change
from hungfacts.clauses import clauses
from hungfacts.errors import NotAnew
from hungfacts.whys import shows_why, why
from tests.edits import edited, nudged
from tests.helper import fact, program
from tests.kinds import KINDS
from tests.makers import ProgramMaker
from tests.plain_whys import plain_candidates, plain_chains
from tests.test_solving import FOUR, LESS, MAIN

ROOTS = (("a", "f"),)
WORDS = ("ON", "OFF")
# One operand otherwise changes an answer seldom: here it does, of many sorts of questions.
NUDGED = (42, 50, 54, 79, 97, 125, 155, 227, 254, 287, 337, 389, 639, 704, 768, 830, 869, 995, 1266, 1312, 1439, 1487, 1501, 1511, 1869,
          1912, 2363, 2785, 3969, 4447, 4465, 4915, 4998, 5016, 5060, 5072, 5532)


def some(*texts, roots=ROOTS, words=WORDS):
    return program(texts, roots, words)


def chain(text):
    return tuple([fact(each) for each in text.split("; ")])


class WhyTest(unittest.TestCase):
    maxDiff = None

    def look(self, elder, newer, name, question, expected, budget=0):
        """Look at the question and at the chain, written as `FACT; FACT`, of a unit that was made anew."""
        change = Change(elder, newer, budget=budget)
        reason = dict(change.anew)[name]
        self.assertEqual(" ".join(map(str, reason[1])), question)
        found = why(change, name)
        if isinstance(expected, str):
            expected = ("facts", chain(expected))
            chains = plain_chains(change, reason[1])
            self.assertEqual(chains[0], expected[1])
            for each in chains:
                self.assertTrue(shows_why(change, name, ("facts", each)))
        self.assertEqual(found, expected)
        self.assertTrue(shows_why(change, name, found))
        return change


class TestGrounds(WhyTest):
    """For each sort of question with grounds a turn that came and one that fell."""

    A = "unit a / open f p / show p / end"
    MORE = "unit a / open f p / show p / call x b.g p / end"

    def both_ways(self, elder, newer, name, question, came, fell=None, back_question=None, **named):
        self.look(elder, newer, name, question, came, **named)
        self.look(newer, elder, name, back_question or question, fell or came, **named)

    def test_section_15(self):
        self.look(program(FOUR, MAIN), program(LESS, MAIN), "k", "ways k 3",
                  "called b g; at b 3; called c h; at c 3; holds k k 0 NONE; yes k 3")
        self.look(program(LESS, MAIN), program(FOUR, MAIN), "k", "ways k 3",
                  "called b g; at b 3; called c h; at c 3; holds k k 0 NONE; yes k 3")
        self.look(program(FOUR, MAIN), program(LESS, MAIN), "b", "called b g", "called b g")
        self.look(program(FOUR, MAIN), program(LESS, MAIN), "c", "called c h", "called b g; at b 3; called c h")

    def test_called(self):
        b = "unit b / open g p / show p / end"
        self.both_ways(some(self.A, b), some(self.MORE, b), "b", "called b g", "called b g")

    def test_reached(self):
        b, c = "unit b / open g p / call x c.h / show 1 / end", "unit c / open h / while ON is ON / end / end"
        a = "unit a / open f p / call x b.g p / end"
        gives = c.replace("while ON is ON / end", "show 1")
        self.both_ways(some(a, b, c), some(a, b, gives), "b", "reached b 4", "gives c h NONE; back c h; at b 4")

    def test_needed(self):
        a, b = "unit a / open f p / call x b.g p / end", "unit b / open g p / call y c.h p / end"
        c = "unit c / open h q / show 1 / end"
        shows = c.replace("show 1", "show q")
        self.both_ways(some(a, b, c), some(a, b, shows), "b", "needed c h 0", "needs c h 0")
        self.both_ways(some(a, b, c), some(a, b, shows), "a", "needed b g 0", "needs c h 0; needs b g 0")

    def test_wanted(self):
        a, b = "unit a / open f p / call x b.g p / end", "unit b / open g p / give p / end"
        self.both_ways(some(a, b), some(a.replace("end", "show x / end"), b), "b", "wanted b g", "needs a f x; wants b g")

    def test_read(self):
        b = "unit b / cell c ON / open g p / keep c p / end / open h / get x c / give x / end"
        a = "unit a / open f p / call x b.g p / call y b.h / end"
        self.both_ways(some(a, b), some(a.replace("b.h / end", "b.h / show y / end"), b), "b", "read b c",
                       "needs a f y; wants b h; needs b h x; reads b c")

    def test_only(self):
        a, b = "unit a / open f p / call x b.g ON / end", "unit b / open g q / show q / end"
        self.both_ways(some(a, b), some(a.replace("ON", "OFF"), b), "b", "only b g 0", "holds b g 0 OFF", "holds b g 0 OFF")
        self.both_ways(some(a, b), some(a.replace("ON", "p"), b), "b", "only b g 0", "holds b g 0 BAD")

    def test_fails(self):
        b = "unit b / open g q / let x q + 1 / show 1 / end"
        a = "unit a / open f p / call x b.g 3 / end"
        self.both_ways(some(a, b), some(a.replace("3", "OFF"), b), "b", "fails b 3", "holds b g 0 OFF")
        # That it holds num no more is no ground; of both words the least one is the turn.
        self.look(some(a, b), some(a.replace("3", "3 / call y b.g ON / call z b.g OFF"), b), "b", "fails b 3", "holds b g 0 OFF")
        self.both_ways(some(a, b), some(a.replace("3", "BAD"), b), "b", "fails b 3", "holds b g 0 BAD")
        two = b.replace("q + 1", "q * q")
        self.both_ways(some(a, two), some(a.replace("3", "OFF"), two), "b", "fails b 3", "holds b g 0 OFF")

    def test_ways(self):
        b = "unit b / open g q / if q is ON / show 1 / end / end"
        a = "unit a / open f p / call x b.g ON / end"
        self.both_ways(some(a, b), some(a.replace("ON", "3"), b), "b", "ways b 3", "holds b g 0 num; no b 3")

    def test_caught(self):
        b = "unit b / open g q / try / call x c.h / do / show 1 / end / catch e / show e / end / end"
        a, c = "unit a / open f p / call x b.g ON / end", "unit c / open h / show 1 / end"
        self.both_ways(some(a, b, c), some(a, b, c.replace("show 1", "show 1 / if 0 < 1 / raise OFF / end")), "b", "caught b 3",
                       "raises c h OFF; at b 9")

    def test_clauses_by_which_a_chain_begins(self):
        # The fact came by a clause that was there, too; one of its premises came by a new one.
        a = "unit a / open f p / call x b.g p / end"
        b, c = "unit b / open g q / call y c.h / show y / end", "unit c / open h / give OFF / end"
        self.look(some(a, b, c), some(a, b, c.replace("OFF", "NONE")), "b", "only b g y", "gives c h NONE; holds b g y NONE")
        # The least ground is the turn, whether it came or fell.
        self.look(some(a, b, c), some(a, b, c.replace("OFF", "ON")), "b", "only b g y", "gives c h OFF; holds b g y OFF")


class TestLeast(WhyTest):
    def test_chain_of_two_ways(self):
        a = "unit a / open f p / call x k.h / call y z.h / end"
        rest = ("unit b / open g / call w d.i / end", "unit d / open i / show 1 / end",
                "unit k / open h / call x b.g / end", "unit z / open h / call x b.g / end")
        elder = some("unit a / open f p / show 1 / show 2 / end", *rest)
        newer = some(a, *rest)
        change = self.look(elder, newer, "d", "called d i", "called k h; at k 3; called b g; at b 3; called d i")
        other = chain("called z h; at z 3; called b g; at b 3; called d i")
        self.assertTrue(shows_why(change, "d", ("facts", other)))
        self.assertEqual(plain_chains(change, ("called", "d", "i")), [why(change, "d")[1], other])
        # Chains may not change over from the one to the other.
        for wrong in ("called z h; at k 3; called b g; at b 3; called d i", "called k h; at z 3; called b g; at b 3; called d i"):
            self.assertFalse(shows_why(change, "d", ("facts", chain(wrong))))

    def test_shorter_one_goes_ahead_of_a_lesser_one(self):
        a = "unit a / open f p / call x k.h / call y z.h / end"
        rest = ("unit b / open g / show 1 / end", "unit e / open h / call x b.g / end",
                "unit k / open h / call x e.h / end", "unit z / open h / call x b.g / end")
        change = self.look(some("unit a / open f p / show 1 / show 2 / end", *rest), some(a, *rest), "b", "called b g",
                           "called z h; at z 3; called b g")
        self.assertFalse(shows_why(change, "b", ("facts", chain("called k h; at k 3; called e h; at e 3; called b g"))))


    def test_clauses_that_do_not_hold(self):
        """That c gives ON would make x ON at a line that is never reached."""
        a = "unit a / open f p / call x b.g / call y c.h / show y / end"
        b = "unit b / open g / let z OFF / if z is ON / call x c.h / else / call x d.h / show x / end / end"
        c, d = "unit c / open h / give OFF / end", "unit d / open h / give OFF / end"
        on = [text.replace("OFF", "BAD") for text in (c, d)]
        self.look(some(a, b, c, d), some(a, b, *on), "b", "only b g x", "gives d h BAD; holds b g x BAD")
        change = Change(some(a, b, c, d), some(a, b, *on))
        self.assertFalse(shows_why(change, "b", ("facts", chain("gives c h BAD; holds b g x BAD"))))


class TestOthers(WhyTest):
    B = "unit b / open g q / show q / give q / end"

    def test_call_that_comes_ahead(self):
        a, c = "unit c / open f p / call x b.g p / show x / end", "unit c2 / open h / call x b.g 1 / end"
        elder = some(self.B, a, c, roots=(("c", "f"), ("c2", "h")))
        first = "unit a / open k / call x b.g 2 / end"
        newer = some(self.B, a, c, first, roots=(("a", "k"), ("c", "f"), ("c2", "h")))
        self.look(elder, newer, "c", "put c 3", ("calls", (), (("a", 3),)), budget=1)
        self.look(newer, elder, "c", "put c 3", ("calls", (("a", 3),), ()), budget=1)
        self.look(elder, newer, "c2", "put c2 3", ("calls", (), (("a", 3),)), budget=2)
        self.assertEqual(dict(Change(elder, newer, budget=1).anew), {"a": ("new",), "c": ("answer", ("put", "c", 3), "yes", "no")})

    def test_function_that_is_small_no_more(self):
        a = "unit a / open f p / call x b.g p / show x / call y b.g 1 / end"
        big = self.B.replace("show q", "show q / show q / show q")
        self.look(some(a, self.B), some(a, big), "a", "put a 3", ("calls", (("a", 3), ("a", 5)), ()), budget=1)
        self.look(some(a, big), some(a, self.B), "a", "put a 3", ("calls", (), (("a", 3), ("a", 5))), budget=1)

    def test_both_at_once(self):
        a = "unit a / open f p / call x b.g p / show x / call y c.h / show y / end"
        c, big = "unit c / open h / give 1 / end", "unit c / open h / show 1 / show 1 / show 1 / give 1 / end"
        less = self.B.replace("show q", "do / show q / end")
        self.look(some(a, self.B, big), some(a, less, c), "a", "put a 3", ("calls", (("a", 3),), (("a", 5),)), budget=9)

    def test_body_and_words(self):
        a = "unit a / open f p / call x b.g p / show x / end"
        self.look(some(a, self.B), some(a, self.B.replace("show q", "show 1")), "a", "words b g 0", ("text", "b"), budget=1)
        self.look(some(a, self.B), some(a, self.B.replace("open g", "cell c ON / open g")), "a", "body b g", ("text", "b"), budget=1)
        self.look(some(a, self.B), some(a, self.B.replace("show q / ", "")), "a", "body b g", ("text", "b"), budget=1)


class TestNotAnew(WhyTest):
    def look_at(self, change, value):
        for look in (lambda: why(change, value), lambda: shows_why(change, value, None), lambda: shows_why(change, value, ("text", "b"))):
            with self.assertRaises(NotAnew) as caught:
                look()
            self.assertIs(caught.exception.value, value)

    def test_other_units(self):
        a = "unit a / open f p / call x b.g p / end"
        b, c, d, e = "unit b / open g q / end", "unit c / open h / end", "unit d / open h / end", "unit e / open h / end"
        change = Change(some(a, b, c, e), some(a, b.replace("end", "show q / end"), d, e))
        self.assertEqual(" ".join([f"{name}:{reason[0]}" for name, reason in change.anew]), "a:answer b:text d:new")
        for name in ("b", "c", "d", "e", "f", ""):
            self.look_at(change, name)
        self.assertEqual(why(change, "a"), ("facts", (("needs", "b", "g", "0"),)))

    def test_any_value(self):
        change = Change(program(FOUR, MAIN), program(LESS, MAIN))
        for value in KINDS:
            self.look_at(change, value)
        self.look_at(change, ["k"])
        self.look_at(change, ("k",))
        self.look_at(change, "m")

    def test_names_of_arguments(self):
        change = Change(program(FOUR, MAIN), program(LESS, MAIN))
        self.assertTrue(shows_why(change=change, name="k", value=why(change=change, name="k")))


class TestShows(WhyTest):
    def wrong(self, change, name, *values):
        for value in values:
            self.assertIs(shows_why(change, name, value), False, value)

    def test_bent_chains(self):
        change = Change(program(FOUR, MAIN), program(LESS, MAIN))
        right = why(change, "k")[1]
        self.assertIs(shows_why(change, "k", ("facts", right)), True)
        self.wrong(change, "k", right, ("facts",), ("facts", right, right), ["facts", right], ("facts", list(right)), ("fact", right),
                   ("calls", right), ("text", right), ("facts", ()), ("calls", (), ()), ("text", "k"), ("facts", None))
        for at in range(len(right)):
            self.wrong(change, "k", ("facts", right[:at] + right[at + 1:]), ("facts", right[:at] + right[at:at + 1] + right[at:]),
                       ("facts", right[:at]), ("facts", right[at + 1:]), ("facts", right[:at] + (list(right[at]),) + right[at + 1:]))
            for other in change.fell + (("at", "m", 3), ("no", "k", 3), ("at", "b", True), (), None, "k", ("called", ["b"], "g")):
                if other != right[at]:
                    self.wrong(change, "k", ("facts", right[:at] + (other,) + right[at + 1:]))
        self.wrong(change, "k", ("facts", right[::-1]), ("facts", right + right[-1:]))
        self.wrong(change, "k", *KINDS)
        self.wrong(change, "k", *[("facts", value) for value in KINDS])

    def test_other_results(self):
        a, b = "unit a / open f p / call x b.g p / show x / end", "unit b / open g q / show q / give q / end"
        change = Change(some(a, b), some(a, b.replace("show q", "show q / show q / show q")), budget=1)
        self.assertTrue(shows_why(change, "a", ("calls", (("a", 3),), ())))
        self.wrong(change, "a", ("calls", (), (("a", 3),)), ("calls", [("a", 3)], ()), ("calls", (["a", 3],), ()), ["calls", (("a", 3),), ()],
                   ("calls", (("a", 3),)), ("calls", (("a", 4),), ()), ("calls", (("a", 3), ("a", 3)), ()), ("text", "b"), ("facts", ()),
                   ("calls", (("a", "3"),), ()), *KINDS)
        change = Change(some(a, b), some(a, b.replace("show q", "show 1")), budget=1)
        self.assertTrue(shows_why(change, "a", ("text", "b")))
        self.wrong(change, "a", ("text", "a"), ["text", "b"], ("text",), ("text", "b", "b"), ("text", ("b",)), "b", ("facts", ("b",)), *KINDS)


class TestCompare(WhyTest):
    def test_made_up_edits(self):
        seen, longest = {}, 0
        for seed in (*range(150), *NUDGED):
            luck = random.Random(seed)
            elder = ProgramMaker(seed, many=luck.randrange(2, 5), lines=(4, 25), small=0.5).program
            newer = nudged(elder, luck) if seed in NUDGED else edited(elder, luck)
            budget = 0 if seed in NUDGED else luck.choice((0, 1, 2, 99))
            for change in (Change(elder, newer, budget=budget), Change(newer, elder, budget=budget)):
                for name, reason in change.anew:
                    if reason[0] != "answer":
                        self.assertRaises(NotAnew, why, change, name)
                        continue
                    found, kind = why(change, name), reason[1][0]
                    seen[kind] = seen.get(kind, 0) + 1
                    self.assertTrue(shows_why(change, name, found))
                    if kind in ("body", "words"):
                        self.assertEqual(found, ("text", reason[1][1]))
                    elif kind == "put":
                        before, now = [plain_candidates(each) for each in (change.elder, change.newer)]
                        self.assertEqual(found, ("calls", tuple([call for call in before if call not in now]),
                                                 tuple([call for call in now if call not in before])))
                    else:
                        chains = plain_chains(change, reason[1])
                        self.assertEqual(found, ("facts", chains[0]))
                        self.assertTrue(all(shows_why(change, name, ("facts", each)) for each in chains))
                        self.look_at_others(change, name, chains, luck)
                        longest = max(longest, len(chains[0]))
        self.assertGreater(longest, 4)
        self.assertLessEqual({"called", "reached", "needed", "wanted", "only", "ways", "fails", "read", "put"}, set(seen))

    def look_at_others(self, change, name, chains, luck):
        """Chains of the same length that begin or end elsewhere, or have other facts of the change amid them."""
        fresh = change.came if chains[0][-1] in change.came else change.fell
        for _ in range(10):
            some_chain = list(luck.choice(chains))
            some_chain[luck.randrange(len(some_chain))] = luck.choice(fresh)
            self.assertEqual(shows_why(change, name, ("facts", tuple(some_chain))), tuple(some_chain) in chains)
        steps = {}
        for program in (change.elder, change.newer):
            for head, premises in clauses(program):
                for premise in premises:
                    steps.setdefault(premise, []).append(head)
        for _ in range(30):
            walk = [luck.choice(fresh)]
            while len(walk) < len(chains[0]) and steps.get(walk[-1]):
                walk.append(luck.choice(steps[walk[-1]]))
            self.assertEqual(shows_why(change, name, ("facts", tuple(walk))), tuple(walk) in chains)


if __name__ == "__main__":
    unittest.main()

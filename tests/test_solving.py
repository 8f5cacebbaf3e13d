"""Facts, ways and closed sets."""

import unittest

from hungfacts.clauses import clauses
from hungfacts.solving import closed, facts, shows_closed, shows_way, way
from tests.helper import fact, program
from tests.kinds import KINDS
from tests.makers import ProgramMaker
from tests.plain_facts import plain_facts

FOUR = ("unit m / open main / call x k.k ON / call y b.g / end", "unit b / open g / call x c.h / end",
        "unit c / open h / call x k.k NONE / call y b.g / end", "unit k / open k p / if p is NONE / raise BAD / end / give ON / end")
MAIN = (("m", "main"),)
LESS = ("unit m / open main / call x k.k ON / end",) + FOUR[1:]
# Values in the place of a way, a closed set or a ring, made of a right one.
SPOILED = (lambda right: list(right), lambda right: right + (None,), lambda right: right + ([],), lambda right: (right,),
           lambda right: {each: 1 for each in right}, lambda right: right[0], lambda right: right + ("at",),
           lambda right: tuple([list(each) for each in right]), lambda right: tuple([each + (1,) for each in right]),
           lambda right: right + (right[0] + (True,),), lambda right: None, lambda right: str(right),
           lambda right: right[:-1] + (list(right[-1]),), lambda right: right[:-1] + ((right[-1],),))


class TestFacts(unittest.TestCase):
    def test_ranks_by_hand(self):
        some = program(("unit a / open f p / show p / let x 1 / end",), (("a", "f"),))
        told = """called a f 1, wants a f 1, holds a f 0 ON 1, holds a f 0 NONE 1, holds a f 0 BAD 1, holds a f 0 num 1,
                  at a 3 2, at a 4 3, needs a f 0 3, at a 5 4, holds a f x num 4, gives a f NONE 5, back a f 6"""
        expected = [row.strip().rpartition(" ") for row in told.replace("\n", "").split(",")]
        self.assertEqual(facts(some), tuple(sorted([(fact(row), int(rank)) for row, _, rank in expected])))

    def test_example(self):
        known = dict(facts(program(FOUR, MAIN)))
        for text, rank in (("called m main", 1), ("at m 3", 2), ("called k k", 3), ("holds k k 0 ON", 3), ("at k 3", 4),
                           ("no k 3", 5), ("called b g", 11), ("at b 3", 12), ("called c h", 13)):
            self.assertEqual(known[fact(text)], rank)

    def test_ring_without_a_call_from_outside(self):
        some, more = program(LESS, MAIN), program(FOUR, MAIN)
        known = dict(facts(some))
        for text in ("called b g", "called c h", "at b 3", "at c 3", "yes k 3", "holds k k 0 NONE"):
            self.assertNotIn(fact(text), known)
            self.assertIn(fact(text), [head for head, _ in clauses(some)])
            self.assertIn(fact(text), dict(facts(more)))

    def test_against_plain_rounds(self):
        for seed in range(60):
            maker = ProgramMaker(seed)
            with self.subTest(maker.texts):
                self.assertEqual(facts(maker.program), tuple(sorted(plain_facts(maker.program).items())))

    def test_units_in_any_sequence(self):
        self.assertEqual(facts(program(FOUR, MAIN)), facts(program(FOUR[::-1], MAIN)))
        self.assertEqual(facts(program=program(FOUR, MAIN)), facts(program(FOUR, MAIN)))


class TestShown(unittest.TestCase):
    def look(self, some):
        """Just one of way and closed is there, and what is there is shown."""
        known = plain_facts(some)
        heads = {head for head, _ in clauses(some)}
        premises = {each for _, behind in clauses(some) for each in behind}
        for each in sorted(heads | premises) + [("at", "a", 2), ("at", "zz", 3)]:
            shown, stays = way(some, each), closed(some, each)
            self.assertEqual((shown is None, stays is None), (each not in known, each in known))
            self.assertEqual(shows_way(some, each, shown), each in known)
            self.assertEqual(shows_closed(some, each, stays), each not in known)

    def test_each_fact(self):
        self.look(program(FOUR, MAIN))
        self.look(program(LESS, MAIN))

    def test_made_up_programs(self):
        for seed in range(5):
            maker = ProgramMaker(seed, many=2, size=3)
            with self.subTest(maker.texts):
                self.look(maker.program)

    def test_any_value(self):
        some = program(FOUR, MAIN)
        whole = tuple([each for each, _ in facts(some)])
        for value in KINDS:
            with self.subTest(repr(value)):
                self.assertIsNone(way(some, value))
                self.assertTrue(shows_closed(some, value, closed(some, value)))
                self.assertTrue(shows_closed(some, value, whole))
                for other in KINDS[::8] + (value,):
                    self.assertIs(shows_way(some, value, other), False)
                    self.assertIs(shows_closed(some, value, other), False)
                self.assertIs(shows_way(some, value, way(some, fact("at m 3"))), False)
                self.assertIs(shows_way(some, fact("at m 3"), value), False)
                self.assertIs(shows_closed(some, fact("yes k 9"), value), False)

    def test_empty(self):
        some = program(FOUR, MAIN)
        self.assertIs(shows_way(some, fact("at m 3"), ()), False)
        self.assertIs(shows_closed(some, fact("yes k 9"), ()), False)

    def test_lists_are_no_facts(self):
        some = program(FOUR, MAIN)
        for value in (["at", "m", 3], ("at", "m", "3"), ("at", "m", 3, 3), ("at", "m"), (("at", "m", 3),), "at m 3"):
            self.assertIsNone(way(some, value))
            self.assertIsNotNone(closed(some, value))
            self.assertIs(shows_way(some, value, way(some, fact("at m 3"))), False)

    def test_by_name(self):
        some, each = program(FOUR, MAIN), fact("at m 3")
        self.assertTrue(shows_way(program=some, fact=each, value=way(program=some, fact=each)))
        self.assertFalse(shows_closed(program=some, fact=each, value=closed(program=some, fact=each)))


class TestSpoiledWays(unittest.TestCase):
    def setUp(self):
        self.some = program(FOUR, MAIN)
        self.fact = fact("at m 4")
        self.right = way(self.some, self.fact)

    def test_right_ones(self):
        self.assertTrue(shows_way(self.some, self.fact, self.right))
        longer = way(self.some, fact("called b g"))
        self.assertTrue(shows_way(self.some, fact("called b g"), self.right + longer))
        self.assertTrue(shows_way(self.some, self.fact, self.right + self.right))
        self.assertTrue(shows_way(self.some, self.fact, self.right + self.right[-1:]))

    def test_without_a_clause(self):
        for at in range(len(self.right)):
            self.assertFalse(shows_way(self.some, self.fact, self.right[:at] + self.right[at + 1:]))

    def test_in_another_sequence(self):
        for at in range(1, len(self.right)):
            self.assertFalse(shows_way(self.some, self.fact, self.right[at:] + self.right[:at]))
        self.assertFalse(shows_way(self.some, self.fact, self.right[::-1]))

    def test_for_another_fact(self):
        self.assertFalse(shows_way(self.some, fact("at m 3"), self.right))
        self.assertFalse(shows_way(self.some, fact("at m 9"), self.right))
        self.assertFalse(shows_way(self.some, self.fact, self.right + self.right[:1]))

    def test_clauses_of_no_program(self):
        head, premises = self.right[-1]
        for other in ((head, ()), (head, premises[:1]), (head, premises[::-1]), (head, premises + premises), (head, list(premises)),
                      [head, premises], (list(head), premises), (head, premises, ()), (head,), (head, premises[:-1] + ([],)),
                      (("at", "m", 5), premises), (head, tuple([list(each) for each in premises])), None, head, (head, None)):
            self.assertIs(shows_way(self.some, self.fact, self.right[:-1] + (other,)), False)
            self.assertIs(shows_way(self.some, self.fact, (other,) + self.right), False)

    def test_other_kinds(self):
        for spoil in SPOILED:
            self.assertIs(shows_way(self.some, self.fact, spoil(self.right)), False)

    def test_of_another_program(self):
        self.assertFalse(shows_way(program(LESS, MAIN), fact("called b g"), way(self.some, fact("called b g"))))


class TestSpoiledClosedSets(unittest.TestCase):
    def setUp(self):
        self.some = program(LESS, MAIN)
        self.fact = fact("called b g")
        self.right = closed(self.some, self.fact)

    def test_right_ones(self):
        self.assertTrue(shows_closed(self.some, self.fact, self.right))
        heads = tuple(sorted({head for head, _ in clauses(self.some)}))
        self.assertFalse(shows_closed(self.some, self.fact, heads))
        self.assertTrue(shows_closed(self.some, fact("at m 9"), heads))

    def test_a_bigger_one(self):
        ring = {fact("called b g"), fact("at b 3"), fact("called c h"), fact("at c 3")}
        self.assertFalse(shows_closed(self.some, fact("yes k 3"), tuple(sorted(set(self.right) | ring))))
        more = sorted(set(self.right) | {fact("raises m main BAD")})
        self.assertTrue(shows_closed(self.some, self.fact, tuple(more)))

    def test_without_a_fact(self):
        known = dict(facts(self.some))
        for at, each in enumerate(self.right):
            self.assertIn(each, known)
            self.assertFalse(shows_closed(self.some, self.fact, self.right[:at] + self.right[at + 1:]))

    def test_with_the_fact(self):
        self.assertFalse(shows_closed(self.some, self.fact, tuple(sorted(self.right + (self.fact,)))))
        self.assertFalse(shows_closed(self.some, self.right[0], self.right))

    def test_not_ascending(self):
        right = self.right
        for value in (right[::-1], right + right[:1], right[:1] + right, right + right[-1:], right[1:] + right[:1]):
            self.assertFalse(shows_closed(self.some, self.fact, value))

    def test_no_facts_of_clauses(self):
        for other in (("at", "m", 9), ("at", "zz", 3), ("back", "m", "f"), ("called", "m", "f"), ("at", "m", True), ("at", "m", "3")):
            for value in (self.right + (other,), (other,) + self.right):
                self.assertFalse(shows_closed(self.some, self.fact, value))
        premise = ("gives", "b", "g", "ON")
        self.assertNotIn(premise, [head for head, _ in clauses(self.some)])
        self.assertFalse(shows_closed(self.some, self.fact, tuple(sorted(self.right + (premise,)))))

    def test_other_kinds(self):
        for spoil in SPOILED:
            self.assertIs(shows_closed(self.some, self.fact, spoil(self.right)), False)


if __name__ == "__main__":
    unittest.main()

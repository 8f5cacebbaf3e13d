"""One sort behind the other, and rings."""

import itertools
import unittest

from hungfacts.clauses import clauses
from hungfacts.errors import BadOrder
from hungfacts.solving import facts
from hungfacts.stages import ring, shows_ring, staged
from tests.helper import fact, program
from tests.kinds import KINDS
from tests.makers import ProgramMaker
from tests.plain_facts import plain_facts, plain_staged
from tests.test_solving import FOUR, LESS, MAIN, SPOILED

SORTS = ("flow", "worth", "need")
ORDERS = tuple(itertools.permutations(SORTS))
PAIR = ("unit f / open f p / if p is ON / call y g.g ON / end / end",
        "unit g / open g p / if p is ON / call y f.f ON / end / end", "unit m / open main / call x f.f OFF / end")


def pair():
    return program(PAIR, MAIN, ("ON", "OFF"))


class TestStaged(unittest.TestCase):
    def look(self, some):
        known = set(dict(facts(some)))
        for order in ORDERS:
            many, held = found = staged(some, order)
            self.assertEqual(found, plain_staged(some, order))
            self.assertLessEqual(known, set(held))
            left = ring(some, order)
            self.assertEqual(left, tuple(sorted(set(held) - known)))
            self.assertIs(shows_ring(some, left), True)

    def test_by_hand(self):
        self.look(pair())
        self.look(program(FOUR, MAIN))
        self.look(program(LESS, MAIN))
        self.look(program(("unit m / open main / end",), MAIN))

    def test_made_up_programs(self):
        for seed in range(15):
            maker = ProgramMaker(seed, many=2 + seed // 8, size=3)
            with self.subTest(maker.texts):
                self.look(maker.program)

    def test_many(self):
        some = program(("unit m / open main / end",), MAIN)
        self.assertEqual({order: staged(some, order)[0] for order in ORDERS},
                         {order: plain_staged(some, order)[0] for order in ORDERS})
        self.assertEqual(staged(some, SORTS), (1, tuple([each for each, _ in facts(some)])))
        text = "unit m / open main / let x ON / if x is OFF / show 1 / end / end"
        told = [staged(program((text,), MAIN, ("ON", "OFF")), order)[0] for order in ORDERS]
        self.assertEqual(told, [plain_staged(program((text,), MAIN, ("ON", "OFF")), order)[0] for order in ORDERS])
        self.assertGreater(max(told), min(told))

    def test_example(self):
        some = ring(pair(), SORTS)
        self.assertEqual((len(some), some[0]), (15, ("at", "f", 4)))
        self.assertIn(fact("holds f f 0 ON"), some)
        self.assertNotIn(("no", "g", 3), some)
        self.assertNotIn(fact("holds f f 0 ON"), dict(facts(pair())))

    def test_no_ring(self):
        for text in ("unit m / open main / end", "unit m / open main p / show p / let x 1 / while x < 3 / set x x + 1 / end / end"):
            for order in ORDERS:
                self.assertEqual(ring(program((text,), MAIN), order), ())

    def test_bad_order(self):
        wrong = (list(SORTS), SORTS[:2], SORTS + ("flow",), ("flow", "flow", "need"), ("flow", "worth", "needs"), SORTS[:2] + (None,),
                 ("flow", "worth", ["need"]), (SORTS,), "flow worth need", {"flow": 1, "worth": 2, "need": 3},
                 ("flow", "worth", "need", ""), ("FLOW", "worth", "need"), ("flow", "worth", 0), ("flow", "worth", True))
        for value in KINDS + wrong:
            for way in (staged, ring):
                with self.subTest(repr(value)):
                    with self.assertRaises(BadOrder) as caught:
                        way(pair(), value)
                    self.assertIs(caught.exception.value, value)

    def test_by_name(self):
        self.assertEqual(staged(order=SORTS, program=pair()), staged(pair(), SORTS))
        self.assertEqual(ring(order=SORTS, program=pair()), ring(pair(), SORTS))
        self.assertIs(shows_ring(program=pair(), value=()), True)


class TestShowsRing(unittest.TestCase):
    def setUp(self):
        self.some = pair()
        self.right = ring(self.some, SORTS)

    def test_rings_by_hand(self):
        rows = ("holds f f 0 ON", "yes f 3", "at f 4", "called g g", "at g 3", "holds g g 0 ON", "yes g 3", "at g 4")
        least = tuple(sorted([fact(row) for row in rows]))
        self.assertTrue(shows_ring(self.some, least))
        for at in range(len(least)):
            self.assertFalse(shows_ring(self.some, least[:at] + least[at + 1:]))
        calls = tuple(sorted([fact(row) for row in ("called b g", "at b 3", "called c h", "at c 3", "at c 4")]))
        self.assertTrue(shows_ring(program(LESS, MAIN), calls))
        self.assertFalse(shows_ring(program(FOUR, MAIN), calls))

    def test_empty(self):
        self.assertTrue(shows_ring(self.some, ()))
        self.assertFalse(shows_ring(self.some, []))

    def test_with_facts_of_the_program(self):
        for each in (("at", "f", 3), ("called", "f", "f"), ("called", "m", "main")):
            self.assertFalse(shows_ring(self.some, tuple(sorted(self.right + (each,)))))
            self.assertFalse(shows_ring(self.some, (each,)))

    def test_with_what_nothing_holds_up(self):
        for each in (("raises", "f", "f", "BAD"), ("at", "f", 9), ("holds", "g", "g", "0", "OFF")):
            self.assertFalse(shows_ring(self.some, tuple(sorted(self.right + (each,)))))

    def test_not_ascending(self):
        right = self.right
        for value in (right[::-1], right + right[:1], right[:1] + right, right[1:] + right[:1], right + right):
            self.assertFalse(shows_ring(self.some, value))

    def test_other_kinds(self):
        for spoil in SPOILED:
            self.assertIs(shows_ring(self.some, spoil(self.right)), False)
        for value in KINDS:
            self.assertIs(shows_ring(self.some, value), value == ())

    def test_parts_of_made_up_rings(self):
        seen = {True: 0, False: 0}
        for seed in range(40):
            some = ProgramMaker(seed, size=3).program
            every, known = clauses(some), plain_facts(some)
            for order in ORDERS[:2]:
                left = ring(some, order)
                for at in range(0, len(left), 5):
                    less = left[:at] + left[at + 1:]
                    standing = self.standing(every, known, less)
                    self.assertIs(shows_ring(some, less), standing == less)
                    while standing != less:
                        less, standing = standing, self.standing(every, known, standing)
                    self.assertIs(shows_ring(some, less), True)
                    seen[less != ()] += 1
        self.assertGreater(min(seen.values()), 0)

    def standing(self, every, known, some):
        """Those of some that are held up by facts and by some."""
        return tuple([each for each in some if any(head == each and all(one in known or one in some for one in premises)
                                                   for head, premises in every)])


if __name__ == "__main__":
    unittest.main()

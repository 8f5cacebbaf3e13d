"""Programs of the greatest sizes: each call answers, and does so soon."""

import itertools
import time
import unittest

from hungfacts.clauses import clauses
from hungfacts.errors import BadOrder, BadRoots, BadUnit, NoRoot, NoUnit
from hungfacts.programs import Program
from hungfacts.runs import met, run, steps
from hungfacts.solving import closed, facts, shows_closed, shows_way, way
from hungfacts.stages import ring, shows_ring, staged
from hungfacts.units import Unit
from tests.helper import bad_line, program
from tests.makers import ProgramMaker

SOON = 5
LONG = "a" * 60000


def big_programs():
    """Six units, together 132 to 150 lines, three words, blocks up to six deep."""
    return [ProgramMaker(seed, many=6, deep=6, words=("ON", "OFF", "A"), lines=(22, 25)) for seed in range(6)]


class SizeTest(unittest.TestCase):
    def soon(self, look, *given):
        begun = time.process_time()
        found = look(*given)
        self.assertLess(time.process_time() - begun, SOON, look)
        return found


class TestSizes(SizeTest):
    def test_big_programs(self):
        for maker in big_programs():
            some = maker.program
            known = self.soon(facts, some)
            heads = sorted({head for head, _ in self.soon(clauses, some)})
            for each in (known[-1][0], max(known, key=lambda row: row[1])[0], heads[len(heads) // 2], ("at", "a", 99)):
                shown = self.soon(way, some, each) or self.soon(closed, some, each)
                self.assertNotEqual(self.soon(shows_way, some, each, shown), self.soon(shows_closed, some, each, shown))
            for order in itertools.permutations(("flow", "worth", "need")):
                self.soon(staged, some, order)
                self.assertTrue(self.soon(shows_ring, some, self.soon(ring, some, order)))
            for root in some.roots:
                values = maker.values(root)
                self.soon(run, some, root, values, 2000)
                self.assertLessEqual(set(self.soon(met, some, root, values, 2000)), set(dict(known)))
                self.soon(list, steps(some, root, values, 2000))

    def test_many_goes(self):
        rows = ["unit a", "open f", "let n 0", "while 0 < 1"] + ["set n n + 1"] * 54 + ["end", "end"]
        some = program(("\n".join(rows),), (("a", "f"),))
        self.assertEqual(self.soon(run, some, ("a", "f"), (), 2000), ("tired",))
        self.assertEqual(len(self.soon(list, steps(some, ("a", "f"), (), 2000))), 2 + 1999 * 55)

    def test_deep_recursion(self):
        some = program(("unit a / open f n / call x l n / end / local l n / let m n + 1 / call x l m / end",), (("a", "f"),))
        self.assertEqual(self.soon(run, some, ("a", "f"), (0,), 2000), ("tired",))
        self.assertEqual(len(self.soon(list, steps(some, ("a", "f"), (0,), 2000))), 1 + 2 * 1999)

    def test_rings_of_six_units(self):
        names = "abcdef"
        texts = [f"unit {name} / open f p / if p is ON / call x {names[k - 5]}.f ON / give x / end / call y {names[k - 4]}.f p / end"
                 for k, name in enumerate(names)]
        some = program(texts, (("a", "f"),), ("ON", "OFF", "A"))
        self.soon(facts, some)
        self.assertTrue(self.soon(shows_ring, some, self.soon(ring, some, ("need", "flow", "worth"))))

    def test_long_strings(self):
        self.assertEqual(self.soon(bad_line, LONG), 1)
        self.assertEqual(self.soon(bad_line, "unit a\nopen f\nshow " + LONG + "\nend"), 3)
        self.assertEqual(self.soon(bad_line, "unit a" + "\nopen f\nend" * 5000), 4)
        self.assertEqual(self.soon(bad_line, "\n" * 60000), 1)
        with self.assertRaises(BadUnit):
            Unit(("ON",), " " * 60000)
        a = Unit(("ON",), "unit a\nopen f\nend")
        with self.assertRaises(BadRoots):
            Program((a,), (("a", LONG),))
        some = Program((a,), (("a", "f"),))
        with self.assertRaises(NoUnit):
            some.unit(LONG)
        with self.assertRaises(NoRoot):
            run(some, (LONG, "f"), (), 1)
        with self.assertRaises(BadOrder):
            staged(some, ("flow", "worth", LONG))
        self.assertIsNone(way(some, ("called", "a", LONG)))

    def test_long_units(self):
        rows = ["unit a", "cell c ON", "open f p q"] + [f"let x{k} p + q" for k in range(50)] + ["show x0"] * 6 + ["end"]
        some = program(("\n".join(rows),), (("a", "f"),), ("ON", "OFF", "A"))
        self.assertEqual(len(rows), 60)
        self.soon(facts, some)
        self.assertEqual(self.soon(run, some, ("a", "f"), (1, 2), 1), ("gave", "NONE", (3,) * 6))


if __name__ == "__main__":
    unittest.main()

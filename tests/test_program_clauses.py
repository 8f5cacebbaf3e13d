import unittest

from hungfacts.clauses import clauses, unit_clauses
from tests.helper import program, told

M = "unit m / open main / call x k.k ON / call y b.g / end"
B = "unit b / open g / call x c.h / end"
C = "unit c / open h / call x k.k NONE / call y b.g / end"
K = "unit k / open k p / if p is NONE / raise BAD / end / give ON / end"


class TestClausesOfPrograms(unittest.TestCase):
    maxDiff = None

    def test_by_hand(self):
        found = clauses(program(("unit a / cell c ON / open f p q / call x b.g / end", "unit b / open g / end"),
                                (("a", "f"),)))
        self.assertEqual(found, told("""called a f
                                        wants a f
                                        holds a f 0 ?
                                        holds a f 1 ?
                                        keeps a c ON
                                        at a 4 <- called a f
                                        back a f <- gives a f ?
                                        called b g <- at a 4
                                        holds a f x ? <- at a 4, gives b g ?
                                        at a 5 <- at a 4, back b g
                                        raises a f ! <- at a 4, raises b g !
                                        wants b g <- at a 4, needs a f x
                                        gives a f NONE <- at a 5
                                        at b 3 <- called b g
                                        back b g <- gives b g ?
                                        gives b g NONE <- at b 3"""))

    def test_units_and_roots(self):
        for words in (("ON",), ("OFF", "ON", "A")):
            for roots in ((("m", "main"),), (("k", "k"),), (("b", "g"), ("k", "k"), ("m", "main"))):
                whole = program((M, B, C, K), roots, words)
                own = [row for root in roots for row in self.of_root(root, whole)]
                expected = own + [row for unit in whole.units for row in unit_clauses(unit)]
                found = clauses(whole)
                self.assertEqual(found, tuple(sorted(set(expected))))
                self.assertEqual(len(found), len(expected))
                self.assertEqual(found, clauses(program=program((K, C, M, B), roots, words)))

    def of_root(self, root, whole):
        rows = [((word, *root), ()) for word in ("called", "wants")]
        if root == ("k", "k"):
            rows += [(("holds", "k", "k", "0", worth), ()) for worth in whole.words + ("NONE", "BAD", "num")]
        return rows

    def test_clauses_that_two_calls_make(self):
        found = clauses(program(("unit a / open f / call x b.g 1 / end", "unit b / open g p / call x b0.g / end",
                                 "unit b0 / open g / end"), (("a", "f"), ("b", "g"))))
        self.assertEqual(len(found), len(set(found)))
        self.assertEqual(found, tuple(sorted(found)))
        self.assertIn((("holds", "b", "g", "0", "num"), ()), found)
        self.assertIn((("holds", "b", "g", "0", "num"), (("at", "a", 3),)), found)

    def test_premises_ascend_each_once(self):
        for _, premises in clauses(program((M, B, C, K), (("m", "main"),))):
            self.assertEqual(premises, tuple(sorted(set(premises))))


if __name__ == "__main__":
    unittest.main()

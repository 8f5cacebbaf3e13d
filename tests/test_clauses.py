"""The clauses of units by hand: FACT <- PREMISES, with ? for each worth and ! for each word."""

import unittest

from hungfacts.clauses import unit_clauses
from hungfacts.units import Unit
from tests.helper import ClauseTest, spread


class TestFunctions(ClauseTest):
    def test_function_without_statements(self):
        self.look("unit u / open f / end", """at u 3 <- called u f
                                              back u f <- gives u f BAD
                                              back u f <- gives u f NONE
                                              back u f <- gives u f ON
                                              back u f <- gives u f num
                                              gives u f NONE <- at u 3""")

    def test_local_functions_and_parameters(self):
        self.look("unit u / local f p q / end / open g p / end", """at u 3 <- called u f
                                                                    back u f <- gives u f ?
                                                                    gives u f NONE <- at u 3
                                                                    at u 5 <- called u g
                                                                    back u g <- gives u g ?
                                                                    gives u g NONE <- at u 5""")

    def test_cells(self):
        self.look("unit u / cell c ON / cell d BAD / cell f NONE / open f / end", """keeps u c ON
                                                                                    keeps u d BAD
                                                                                    keeps u f NONE
                                                                                    at u 6 <- called u f
                                                                                    back u f <- gives u f ?
                                                                                    gives u f NONE <- at u 6""")

    def test_three_words(self):
        words = ("ON", "A", "ZZ")
        found = self.look("unit u / open f / give ZZ / end", """at u 3 <- called u f
                                                                back u f <- gives u f ?
                                                                gives u f NONE <- at u 4
                                                                gives u f ZZ <- at u 3""", words)
        self.assertEqual([fact[0] for fact, _ in found].count("back"), 6)


class TestLetAndSet(ClauseTest):
    def test_name(self):
        self.look("unit u / open f p / let x p / end", """at u 3 <- called u f
                                                          back u f <- gives u f ?
                                                          holds u f x BAD <- at u 3, holds u f 0 BAD
                                                          holds u f x NONE <- at u 3, holds u f 0 NONE
                                                          holds u f x ON <- at u 3, holds u f 0 ON
                                                          holds u f x num <- at u 3, holds u f 0 num
                                                          at u 4 <- at u 3
                                                          needs u f 0 <- at u 3, needs u f x
                                                          gives u f NONE <- at u 4""")

    def test_word_and_numeral(self):
        self.look("unit u / open f p q / let x ON / set x -7 / set x BAD / end", """at u 3 <- called u f
                                                          back u f <- gives u f ?
                                                          holds u f x ON <- at u 3
                                                          at u 4 <- at u 3
                                                          holds u f x num <- at u 4
                                                          at u 5 <- at u 4
                                                          holds u f x BAD <- at u 5
                                                          at u 6 <- at u 5
                                                          gives u f NONE <- at u 6""")

    def test_set_of_itself(self):
        self.look("unit u / open f / let x 0 / set x x / end", """at u 3 <- called u f
                                                          back u f <- gives u f ?
                                                          holds u f x num <- at u 3
                                                          at u 4 <- at u 3
                                                          holds u f x ? <- at u 4, holds u f x ?
                                                          at u 5 <- at u 4
                                                          needs u f x <- at u 4, needs u f x
                                                          gives u f NONE <- at u 5""")

    def test_names_of_cells_and_functions_alike(self):
        self.look("unit u / cell f ON / open g u / let g u / end", """keeps u f ON
                                                          at u 4 <- called u g
                                                          back u g <- gives u g ?
                                                          holds u g g ? <- at u 4, holds u g 0 ?
                                                          at u 5 <- at u 4
                                                          needs u g 0 <- at u 4, needs u g g
                                                          gives u g NONE <- at u 5""")


class TestSums(ClauseTest):
    def test_two_names(self):
        self.look("unit u / open f p q / let x q + p / end", """at u 3 <- called u f
                                                back u f <- gives u f ?
                                                holds u f x num <- at u 3, holds u f 0 num, holds u f 1 num
                                                at u 4 <- at u 3, holds u f 0 num, holds u f 1 num
                                                raises u f BAD <- at u 3, holds u f 1 !
                                                raises u f BAD <- at u 3, holds u f 0 !
                                                needs u f 0 <- at u 3, holds u f 0 !
                                                needs u f 0 <- at u 3, holds u f 1 !
                                                needs u f 1 <- at u 3, holds u f 0 !
                                                needs u f 1 <- at u 3, holds u f 1 !
                                                needs u f 0 <- at u 3, needs u f x
                                                needs u f 1 <- at u 3, needs u f x
                                                gives u f NONE <- at u 4""")

    def test_one_name_twice(self):
        self.look("unit u / open f p / let x 1 / set x p * p / end", """at u 3 <- called u f
                                                back u f <- gives u f ?
                                                holds u f x num <- at u 3
                                                at u 4 <- at u 3
                                                holds u f x num <- at u 4, holds u f 0 num
                                                at u 5 <- at u 4, holds u f 0 num
                                                raises u f BAD <- at u 4, holds u f 0 !
                                                needs u f 0 <- at u 4, holds u f 0 !
                                                needs u f 0 <- at u 4, needs u f x
                                                gives u f NONE <- at u 5""")

    def test_name_and_numeral(self):
        for term in ("p - 3", "3 - p"):
            self.look(f"unit u / open f p / let x {term} / end", """at u 3 <- called u f
                                                back u f <- gives u f ?
                                                holds u f x num <- at u 3, holds u f 0 num
                                                at u 4 <- at u 3, holds u f 0 num
                                                raises u f BAD <- at u 3, holds u f 0 !
                                                needs u f 0 <- at u 3, holds u f 0 !
                                                needs u f 0 <- at u 3, needs u f x
                                                gives u f NONE <- at u 4""")

    def test_name_and_word(self):
        for term in ("p + NONE", "NONE + p"):
            self.look(f"unit u / open f p / let x {term} / end", """at u 3 <- called u f
                                                back u f <- gives u f ?
                                                raises u f BAD <- at u 3, holds u f 0 !
                                                raises u f BAD <- at u 3
                                                needs u f 0 <- at u 3, holds u f 0 !
                                                needs u f 0 <- at u 3
                                                needs u f 0 <- at u 3, needs u f x
                                                gives u f NONE <- at u 4""")

    def test_no_names(self):
        self.look("unit u / open f / let x 1 + 2 / set x ON + 1 / set x ON * BAD / end", """at u 3 <- called u f
                                                back u f <- gives u f ?
                                                holds u f x num <- at u 3
                                                at u 4 <- at u 3
                                                raises u f BAD <- at u 4
                                                raises u f BAD <- at u 5
                                                gives u f NONE <- at u 6""")

    def test_in_a_try(self):
        self.look("unit u / open f p / try / let x p + 1 / catch e / end / end", """at u 3 <- called u f
                                                back u f <- gives u f ?
                                                at u 4 <- at u 3
                                                holds u f x num <- at u 4, holds u f 0 num
                                                at u 5 <- at u 4, holds u f 0 num
                                                holds u f e BAD <- at u 4, holds u f 0 !
                                                at u 6 <- at u 4, holds u f 0 !
                                                needs u f 0 <- at u 4, holds u f 0 !
                                                needs u f 0 <- at u 4, needs u f x
                                                at u 7 <- at u 5
                                                at u 7 <- at u 6
                                                gives u f NONE <- at u 7""")


class TestCalls(ClauseTest):
    def test_other_unit(self):
        self.look("unit u / open f p / call x v.g p ON 7 / end", """at u 3 <- called u f
                                                back u f <- gives u f ?
                                                called v g <- at u 3
                                                holds v g 0 ? <- at u 3, holds u f 0 ?
                                                holds v g 1 ON <- at u 3
                                                holds v g 2 num <- at u 3
                                                holds u f x ? <- at u 3, gives v g ?
                                                at u 4 <- at u 3, back v g
                                                raises u f ! <- at u 3, raises v g !
                                                needs u f 0 <- at u 3, needs v g 0
                                                wants v g <- at u 3, needs u f x
                                                gives u f NONE <- at u 4""")

    def test_local_function(self):
        self.look("unit u / open f p q / call x g q p / end / local g r s / end", """at u 3 <- called u f
                                                back u f <- gives u f ?
                                                called u g <- at u 3
                                                holds u g 0 ? <- at u 3, holds u f 1 ?
                                                holds u g 1 ? <- at u 3, holds u f 0 ?
                                                holds u f x ? <- at u 3, gives u g ?
                                                at u 4 <- at u 3, back u g
                                                raises u f ! <- at u 3, raises u g !
                                                needs u f 1 <- at u 3, needs u g 0
                                                needs u f 0 <- at u 3, needs u g 1
                                                wants u g <- at u 3, needs u f x
                                                gives u f NONE <- at u 4
                                                at u 6 <- called u g
                                                back u g <- gives u g ?
                                                gives u g NONE <- at u 6""")

    def test_itself(self):
        self.look("unit u / local f p / call x f p / end", """at u 3 <- called u f
                                                back u f <- gives u f ?
                                                called u f <- at u 3
                                                holds u f 0 ? <- at u 3, holds u f 0 ?
                                                holds u f x ? <- at u 3, gives u f ?
                                                at u 4 <- at u 3, back u f
                                                raises u f ! <- at u 3, raises u f !
                                                needs u f 0 <- at u 3, needs u f 0
                                                wants u f <- at u 3, needs u f x
                                                gives u f NONE <- at u 4""")

    def test_in_a_try(self):
        self.look("unit u / open f / try / call x v.g / catch e / end / end", """at u 3 <- called u f
                                                back u f <- gives u f ?
                                                at u 4 <- at u 3
                                                called v g <- at u 4
                                                holds u f x ? <- at u 4, gives v g ?
                                                at u 5 <- at u 4, back v g
                                                holds u f e ! <- at u 4, raises v g !
                                                at u 6 <- at u 4, raises v g !
                                                wants v g <- at u 4, needs u f x
                                                at u 7 <- at u 5
                                                at u 7 <- at u 6
                                                gives u f NONE <- at u 7""")

    def test_same_operand_twice(self):
        self.look("unit u / open f p / call x v.g p p / end", """at u 3 <- called u f
                                                back u f <- gives u f ?
                                                called v g <- at u 3
                                                holds v g 0 ? <- at u 3, holds u f 0 ?
                                                holds v g 1 ? <- at u 3, holds u f 0 ?
                                                holds u f x ? <- at u 3, gives v g ?
                                                at u 4 <- at u 3, back v g
                                                raises u f ! <- at u 3, raises v g !
                                                needs u f 0 <- at u 3, needs v g 0
                                                needs u f 0 <- at u 3, needs v g 1
                                                wants v g <- at u 3, needs u f x
                                                gives u f NONE <- at u 4""")


class TestCells(ClauseTest):
    def test_get(self):
        self.look("unit u / cell c ON / open f / get x c / end", """keeps u c ON
                                                at u 4 <- called u f
                                                back u f <- gives u f ?
                                                holds u f x ? <- at u 4, keeps u c ?
                                                at u 5 <- at u 4
                                                reads u c <- at u 4, needs u f x
                                                gives u f NONE <- at u 5""")

    def test_keep(self):
        self.look("unit u / cell c ON / open f p / keep c p / keep c BAD / keep c 0 / end", """keeps u c ON
                                                at u 4 <- called u f
                                                back u f <- gives u f ?
                                                keeps u c ? <- at u 4, holds u f 0 ?
                                                at u 5 <- at u 4
                                                needs u f 0 <- at u 4, reads u c
                                                keeps u c BAD <- at u 5
                                                at u 6 <- at u 5
                                                keeps u c num <- at u 6
                                                at u 7 <- at u 6
                                                gives u f NONE <- at u 7""")


class TestShowGiveRaise(ClauseTest):
    def test_show(self):
        self.look("unit u / open f p / show p / show ON / show 1 / end", """at u 3 <- called u f
                                                back u f <- gives u f ?
                                                at u 4 <- at u 3
                                                needs u f 0 <- at u 3
                                                at u 5 <- at u 4
                                                at u 6 <- at u 5
                                                gives u f NONE <- at u 6""")

    def test_give(self):
        self.look("unit u / open f p / give p / give BAD / give 9 / end", """at u 3 <- called u f
                                                back u f <- gives u f ?
                                                gives u f ? <- at u 3, holds u f 0 ?
                                                needs u f 0 <- at u 3, wants u f
                                                gives u f BAD <- at u 4
                                                gives u f num <- at u 5
                                                gives u f NONE <- at u 6""")

    def test_raise(self):
        self.look("unit u / open f p / raise p / raise ON / raise 4 / end", """at u 3 <- called u f
                                                back u f <- gives u f ?
                                                raises u f ! <- at u 3, holds u f 0 !
                                                raises u f BAD <- at u 3, holds u f 0 num
                                                needs u f 0 <- at u 3
                                                raises u f ON <- at u 4
                                                raises u f BAD <- at u 5
                                                gives u f NONE <- at u 6""")

    def test_raise_in_a_try(self):
        self.look("unit u / open f p / try / raise p / raise NONE / raise 4 / catch e / show e / end / end", """
                                                at u 3 <- called u f
                                                back u f <- gives u f ?
                                                at u 4 <- at u 3
                                                holds u f e ! <- at u 4, holds u f 0 !
                                                at u 8 <- at u 4, holds u f 0 !
                                                holds u f e BAD <- at u 4, holds u f 0 num
                                                at u 8 <- at u 4, holds u f 0 num
                                                needs u f 0 <- at u 4
                                                holds u f e NONE <- at u 5
                                                at u 8 <- at u 5
                                                holds u f e BAD <- at u 6
                                                at u 8 <- at u 6
                                                at u 10 <- at u 7
                                                at u 9 <- at u 8
                                                needs u f e <- at u 8
                                                at u 10 <- at u 9
                                                gives u f NONE <- at u 10""")


class TestExamples(ClauseTest):
    def test_units_of_section_3(self):
        self.look("unit k / open k p / if p is NONE / raise BAD / end / give ON / end", """at k 3 <- called k k
                                                back k k <- gives k k ?
                                                yes k 3 <- at k 3, holds k k 0 NONE
                                                no k 3 <- at k 3, holds k k 0 ON
                                                no k 3 <- at k 3, holds k k 0 BAD
                                                no k 3 <- at k 3, holds k k 0 num
                                                needs k k 0 <- no k 3, yes k 3
                                                at k 4 <- yes k 3
                                                at k 5 <- no k 3
                                                raises k k BAD <- at k 4
                                                at k 6 <- at k 5
                                                gives k k ON <- at k 6
                                                gives k k NONE <- at k 7""")

    def test_same_again(self):
        text = spread("unit u / cell c ON / open f p / try / keep c p / catch e / raise e / end / give p / end")
        one = Unit(("ON", "OFF"), text)
        first = unit_clauses(one)
        self.assertEqual(first, unit_clauses(one))
        self.assertEqual(first, unit_clauses(unit=Unit(("ON", "OFF"), text)))
        self.assertEqual(one.text, text)


if __name__ == "__main__":
    unittest.main()

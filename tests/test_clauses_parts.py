"""The clauses of statements with parts, by hand."""

import unittest

from hungfacts.clauses import unit_clauses
from tests.helper import ClauseTest, unit


class TestTests(ClauseTest):
    def test_word_is_word(self):
        self.look("unit u / open f / if ON is ON / end / if ON is BAD / end / if 3 is ON / end / end", """
                                                at u 3 <- called u f
                                                back u f <- gives u f ?
                                                yes u 3 <- at u 3
                                                at u 4 <- yes u 3
                                                at u 4 <- no u 3
                                                at u 5 <- at u 4
                                                no u 5 <- at u 5
                                                at u 6 <- yes u 5
                                                at u 6 <- no u 5
                                                at u 7 <- at u 6
                                                no u 7 <- at u 7
                                                at u 8 <- yes u 7
                                                at u 8 <- no u 7
                                                at u 9 <- at u 8
                                                gives u f NONE <- at u 9""")

    def test_less(self):
        self.look("unit u / open f p q / if p < q / end / end", """at u 3 <- called u f
                                                back u f <- gives u f ?
                                                yes u 3 <- at u 3, holds u f 0 num, holds u f 1 num
                                                no u 3 <- at u 3, holds u f 0 num, holds u f 1 num
                                                raises u f BAD <- at u 3, holds u f 0 !
                                                raises u f BAD <- at u 3, holds u f 1 !
                                                needs u f 0 <- at u 3
                                                needs u f 1 <- at u 3
                                                at u 4 <- yes u 3
                                                at u 4 <- no u 3
                                                at u 5 <- at u 4
                                                gives u f NONE <- at u 5""")

    def test_less_of_others(self):
        self.look("unit u / open f p / if p < 2 / end / if ON < p / end / if 1 < 2 / end / if 1 < BAD / end / end", """
                                                at u 3 <- called u f
                                                back u f <- gives u f ?
                                                yes u 3 <- at u 3, holds u f 0 num
                                                no u 3 <- at u 3, holds u f 0 num
                                                raises u f BAD <- at u 3, holds u f 0 !
                                                needs u f 0 <- at u 3
                                                at u 4 <- yes u 3
                                                at u 4 <- no u 3
                                                at u 5 <- at u 4
                                                raises u f BAD <- at u 5
                                                raises u f BAD <- at u 5, holds u f 0 !
                                                needs u f 0 <- at u 5
                                                at u 6 <- yes u 5
                                                at u 6 <- no u 5
                                                at u 7 <- at u 6
                                                yes u 7 <- at u 7
                                                no u 7 <- at u 7
                                                at u 8 <- yes u 7
                                                at u 8 <- no u 7
                                                at u 9 <- at u 8
                                                raises u f BAD <- at u 9
                                                at u 10 <- yes u 9
                                                at u 10 <- no u 9
                                                at u 11 <- at u 10
                                                gives u f NONE <- at u 11""")

    def test_less_in_a_try(self):
        self.look("unit u / open f p / try / while p < p / end / catch e / end / end", """at u 3 <- called u f
                                                back u f <- gives u f ?
                                                at u 4 <- at u 3
                                                yes u 4 <- at u 4, holds u f 0 num
                                                no u 4 <- at u 4, holds u f 0 num
                                                holds u f e BAD <- at u 4, holds u f 0 !
                                                at u 7 <- at u 4, holds u f 0 !
                                                needs u f 0 <- at u 4
                                                at u 5 <- yes u 4
                                                at u 6 <- no u 4
                                                at u 4 <- at u 5
                                                at u 8 <- at u 6
                                                at u 8 <- at u 7
                                                gives u f NONE <- at u 8""")


class TestIf(ClauseTest):
    def test_without_else(self):
        self.look("unit u / open f p / if p is ON / show 1 / end / show 2 / end", """at u 3 <- called u f
                                                back u f <- gives u f ?
                                                yes u 3 <- at u 3, holds u f 0 ON
                                                no u 3 <- at u 3, holds u f 0 BAD
                                                no u 3 <- at u 3, holds u f 0 NONE
                                                no u 3 <- at u 3, holds u f 0 num
                                                needs u f 0 <- no u 3, yes u 3
                                                at u 4 <- yes u 3
                                                at u 5 <- no u 3
                                                at u 5 <- at u 4
                                                at u 6 <- at u 5
                                                at u 7 <- at u 6
                                                gives u f NONE <- at u 7""")

    def test_with_else(self):
        self.look("unit u / open f / if 1 is ON / show 1 / show 2 / else / show 3 / end / end", """
                                                at u 3 <- called u f
                                                back u f <- gives u f ?
                                                no u 3 <- at u 3
                                                at u 4 <- yes u 3
                                                at u 7 <- no u 3
                                                at u 5 <- at u 4
                                                at u 6 <- at u 5
                                                at u 9 <- at u 6
                                                at u 8 <- at u 7
                                                at u 9 <- at u 8
                                                gives u f NONE <- at u 9""")

    def test_parts_without_statements(self):
        self.look("unit u / open f / if ON is ON / else / end / end", """at u 3 <- called u f
                                                back u f <- gives u f ?
                                                yes u 3 <- at u 3
                                                at u 4 <- yes u 3
                                                at u 5 <- no u 3
                                                at u 6 <- at u 4
                                                at u 6 <- at u 5
                                                gives u f NONE <- at u 6""")

    def test_test_by_another_word(self):
        words = ("OFF", "ON")
        self.look("unit u / open f p / if p is NONE / end / end", """at u 3 <- called u f
                                                back u f <- gives u f ?
                                                yes u 3 <- at u 3, holds u f 0 NONE
                                                no u 3 <- at u 3, holds u f 0 BAD
                                                no u 3 <- at u 3, holds u f 0 OFF
                                                no u 3 <- at u 3, holds u f 0 ON
                                                no u 3 <- at u 3, holds u f 0 num
                                                needs u f 0 <- no u 3, yes u 3
                                                at u 4 <- yes u 3
                                                at u 4 <- no u 3
                                                at u 5 <- at u 4
                                                gives u f NONE <- at u 5""", words)


class TestWhileAndDo(ClauseTest):
    def test_while(self):
        self.look("unit u / open f / let x ON / while x is ON / set x NONE / end / show x / end", """
                                                at u 3 <- called u f
                                                back u f <- gives u f ?
                                                holds u f x ON <- at u 3
                                                at u 4 <- at u 3
                                                yes u 4 <- at u 4, holds u f x ON
                                                no u 4 <- at u 4, holds u f x BAD
                                                no u 4 <- at u 4, holds u f x NONE
                                                no u 4 <- at u 4, holds u f x num
                                                needs u f x <- no u 4, yes u 4
                                                at u 5 <- yes u 4
                                                at u 7 <- no u 4
                                                holds u f x NONE <- at u 5
                                                at u 6 <- at u 5
                                                at u 4 <- at u 6
                                                at u 8 <- at u 7
                                                needs u f x <- at u 7
                                                gives u f NONE <- at u 8""")

    def test_while_at_the_end_of_a_part(self):
        self.look("unit u / open f / do / while 1 < 2 / end / end / end", """at u 3 <- called u f
                                                back u f <- gives u f ?
                                                at u 4 <- at u 3
                                                yes u 4 <- at u 4
                                                no u 4 <- at u 4
                                                at u 5 <- yes u 4
                                                at u 6 <- no u 4
                                                at u 4 <- at u 5
                                                at u 7 <- at u 6
                                                gives u f NONE <- at u 7""")

    def test_do(self):
        self.look("unit u / open f / do / show 1 / do / end / end / show 2 / end", """at u 3 <- called u f
                                                back u f <- gives u f ?
                                                at u 4 <- at u 3
                                                at u 5 <- at u 4
                                                at u 6 <- at u 5
                                                at u 7 <- at u 6
                                                at u 8 <- at u 7
                                                at u 9 <- at u 8
                                                gives u f NONE <- at u 9""")


class TestTry(ClauseTest):
    def test_alone(self):
        self.look("unit u / open f / try / catch e / end / show 1 / end", """at u 3 <- called u f
                                                back u f <- gives u f ?
                                                at u 4 <- at u 3
                                                at u 6 <- at u 4
                                                at u 6 <- at u 5
                                                at u 7 <- at u 6
                                                gives u f NONE <- at u 7""")

    def test_try_within_a_try(self):
        text = ("unit u / open f / try / raise ON / try / raise NONE / catch e / raise BAD / end / raise 1"
                " / catch g / raise NONE / end / raise ON / end")
        self.look(text, """at u 3 <- called u f
                           back u f <- gives u f ?
                           at u 4 <- at u 3
                           holds u f g ON <- at u 4
                           at u 12 <- at u 4
                           at u 6 <- at u 5
                           holds u f e NONE <- at u 6
                           at u 8 <- at u 6
                           at u 10 <- at u 7
                           holds u f g BAD <- at u 8
                           at u 12 <- at u 8
                           at u 10 <- at u 9
                           holds u f g BAD <- at u 10
                           at u 12 <- at u 10
                           at u 14 <- at u 11
                           raises u f NONE <- at u 12
                           at u 14 <- at u 13
                           raises u f ON <- at u 14
                           gives u f NONE <- at u 15""")

    def test_try_in_a_second_part(self):
        text = "unit u / open f / try / catch e / try / raise ON / catch g / raise BAD / end / raise NONE / end / end"
        self.look(text, """at u 3 <- called u f
                           back u f <- gives u f ?
                           at u 4 <- at u 3
                           at u 12 <- at u 4
                           at u 6 <- at u 5
                           holds u f g ON <- at u 6
                           at u 8 <- at u 6
                           at u 10 <- at u 7
                           raises u f BAD <- at u 8
                           at u 10 <- at u 9
                           raises u f NONE <- at u 10
                           at u 12 <- at u 11
                           gives u f NONE <- at u 12""")

    def test_blocks_within_a_first_part(self):
        text = ("unit u / open f / try / do / if ON is ON / raise ON / else / raise BAD / end / end / while 1 is ON"
                " / raise NONE / end / catch e / end / end")
        self.look(text, """at u 3 <- called u f
                           back u f <- gives u f ?
                           at u 4 <- at u 3
                           at u 5 <- at u 4
                           yes u 5 <- at u 5
                           at u 6 <- yes u 5
                           at u 8 <- no u 5
                           holds u f e ON <- at u 6
                           at u 15 <- at u 6
                           at u 10 <- at u 7
                           holds u f e BAD <- at u 8
                           at u 15 <- at u 8
                           at u 10 <- at u 9
                           at u 11 <- at u 10
                           no u 11 <- at u 11
                           at u 12 <- yes u 11
                           at u 14 <- no u 11
                           holds u f e NONE <- at u 12
                           at u 15 <- at u 12
                           at u 11 <- at u 13
                           at u 16 <- at u 14
                           at u 16 <- at u 15
                           gives u f NONE <- at u 16""")

    def test_same_name_in_both_parts(self):
        self.look("unit u / open f p / try / let e p / catch e / give e / end / end", """at u 3 <- called u f
                           back u f <- gives u f ?
                           at u 4 <- at u 3
                           holds u f e ? <- at u 4, holds u f 0 ?
                           needs u f 0 <- at u 4, needs u f e
                           at u 5 <- at u 4
                           at u 8 <- at u 5
                           gives u f ? <- at u 6, holds u f e ?
                           needs u f e <- at u 6, wants u f
                           at u 8 <- at u 7
                           gives u f NONE <- at u 8""")

    def test_tries_beside_one_another(self):
        self.look("unit u / open f / try / raise ON / catch e / end / try / raise BAD / catch e / end / end", """
                           at u 3 <- called u f
                           back u f <- gives u f ?
                           at u 4 <- at u 3
                           holds u f e ON <- at u 4
                           at u 6 <- at u 4
                           at u 7 <- at u 5
                           at u 7 <- at u 6
                           at u 8 <- at u 7
                           holds u f e BAD <- at u 8
                           at u 10 <- at u 8
                           at u 11 <- at u 9
                           at u 11 <- at u 10
                           gives u f NONE <- at u 11""")

    def test_tries_of_different_functions(self):
        self.look("unit u / open f / try / catch e / end / end / local g / raise ON / end", """
                           at u 3 <- called u f
                           back u f <- gives u f ?
                           at u 4 <- at u 3
                           at u 6 <- at u 4
                           at u 6 <- at u 5
                           gives u f NONE <- at u 6
                           at u 8 <- called u g
                           back u g <- gives u g ?
                           raises u g ON <- at u 8
                           gives u g NONE <- at u 9""")


class TestDeepUnits(unittest.TestCase):
    def test_many_blocks_within_one_another(self):
        deep = 60
        rows = ["unit u", "open f"] + ["try"] * deep + ["raise ON"] + ["catch e", "end"] * deep + ["end"]
        found = unit_clauses(unit("\n".join(rows)))
        self.assertIn((("at", "u", deep + 5), (("at", "u", deep + 3),)), found)
        self.assertIn((("holds", "u", "f", "e", "ON"), (("at", "u", deep + 3),)), found)


if __name__ == "__main__":
    unittest.main()

"""Which facts a run meets, by hand."""

import unittest

from hungfacts.runs import met
from hungfacts.solving import facts
from tests.helper import fact, program

MAIN = ("a", "f")


class TestMet(unittest.TestCase):
    maxDiff = None

    def look(self, texts, values, expected, most=50, words=("ON",)):
        some = program(texts, (MAIN,), words)
        found = met(some, MAIN, values, most)
        rows = [row.strip() for part in expected.split("\n") for row in part.split(",") if row.strip()]
        self.assertEqual(found, tuple(sorted([fact(row) for row in rows])))
        self.assertLessEqual(set(found), {each for each, _ in facts(some)})

    def test_root(self):
        self.look(("unit a / open f p q / end",), ("ON", 3),
                  "called a f, holds a f 0 ON, holds a f 1 num, at a 3, gives a f NONE, back a f")
        self.look(("unit a / open f / give 3 / end",), (), "called a f, at a 3, gives a f num, back a f")
        self.look(("unit a / open f / raise 3 / end",), (), "called a f, at a 3, raises a f BAD")

    def test_cells(self):
        self.look(("unit a / cell c ON / cell d BAD / open f / keep c 3 / get x c / end", "unit b / cell c NONE / open g / end"), (),
                  """called a f, at a 5, at a 6, at a 7, keeps a c ON, keeps a d BAD, keeps b c NONE, keeps a c num,
                  holds a f x num, gives a f NONE, back a f""")

    def test_names(self):
        self.look(("unit a / open f p / let x p / set x 1 + 2 / show x / end",), ("BAD",),
                  """called a f, holds a f 0 BAD, at a 3, holds a f x BAD, at a 4, holds a f x num, at a 5, at a 6,
                  gives a f NONE, back a f""")

    def test_if_without_else(self):
        text = "unit a / open f p / if p is ON / show 1 / end / end"
        self.look((text,), ("ON",), """called a f, holds a f 0 ON, at a 3, yes a 3, at a 4, at a 5, at a 6, gives a f NONE,
                  back a f""")
        self.look((text,), (0,), "called a f, holds a f 0 num, at a 3, no a 3, at a 5, at a 6, gives a f NONE, back a f")

    def test_if_with_else(self):
        text = "unit a / open f p / if p is ON / show 1 / else / show 2 / end / end"
        self.look((text,), ("ON",), """called a f, holds a f 0 ON, at a 3, yes a 3, at a 4, at a 5, at a 8, gives a f NONE,
                  back a f""")
        self.look((text,), (0,), """called a f, holds a f 0 num, at a 3, no a 3, at a 6, at a 7, at a 8, gives a f NONE,
                  back a f""")
        text = "unit a / open f p / if p is ON / else / end / end"
        self.look((text,), ("ON",), "called a f, holds a f 0 ON, at a 3, yes a 3, at a 4, at a 6, gives a f NONE, back a f")
        self.look((text,), (0,), "called a f, holds a f 0 num, at a 3, no a 3, at a 5, at a 6, gives a f NONE, back a f")

    def test_while(self):
        text = "unit a / open f / let n 0 / while n < 1 / set n n + 1 / end / end"
        self.look((text,), (), """called a f, at a 3, holds a f n num, at a 4, yes a 4, no a 4, at a 5, at a 6, at a 7,
                  gives a f NONE, back a f""")
        self.look((text,), (), "called a f, at a 3, holds a f n num, at a 4, yes a 4, at a 5, at a 6", most=2)
        self.look((text,), (), "called a f, at a 3, holds a f n num, at a 4", most=1)

    def test_do(self):
        self.look(("unit a / open f / do / show 1 / end / do / end / end",), (),
                  "called a f, at a 3, at a 4, at a 5, at a 6, at a 7, at a 8, gives a f NONE, back a f")

    def test_try(self):
        text = "unit a / open f p / try / raise p / show 1 / catch e / show e / end / end"
        self.look((text,), ("ON",), """called a f, holds a f 0 ON, at a 3, at a 4, holds a f e ON, at a 7, at a 8, at a 9,
                  gives a f NONE, back a f""")
        self.look((text.replace("raise", "show"),), ("ON",),
                  "called a f, holds a f 0 ON, at a 3, at a 4, at a 5, at a 6, at a 9, gives a f NONE, back a f")
        self.look(("unit a / open f / try / raise 1 / catch e / end / end",), (),
                  "called a f, at a 3, at a 4, holds a f e BAD, at a 6, at a 7, gives a f NONE, back a f")
        self.look(("unit a / open f / try / catch e / end / end",), (),
                  "called a f, at a 3, at a 4, at a 6, gives a f NONE, back a f")

    def test_calls(self):
        text = "unit a / open f / call x b.g NONE 4 / show x / end"
        self.look((text, "unit b / open g p q / give p / end"), (), """called a f, at a 3, called b g, holds b g 0 NONE,
                  holds b g 1 num, at b 3, gives b g NONE, back b g, holds a f x NONE, at a 4, at a 5, gives a f NONE, back a f""")
        self.look((text, "unit b / open g p q / give p / end"), (), "called a f, at a 3", most=1)
        self.look((text, "unit b / open g p q / raise p / end"), (), """called a f, at a 3, called b g, holds b g 0 NONE,
                  holds b g 1 num, at b 3, raises b g NONE, raises a f NONE""")

    def test_fault_over_calls(self):
        text = "unit a / open f / try / call x l / catch e / show e / end / end / local l / call x m / end / local m / raise ON / end"
        self.look((text,), (), """called a f, at a 3, at a 4, called a l, at a 10, called a m, at a 13, raises a m ON,
                  raises a l ON, holds a f e ON, at a 6, at a 7, at a 8, gives a f NONE, back a f""")

    def test_test_with_a_fault(self):
        self.look(("unit a / open f p / if p < 1 / end / end",), ("ON",), "called a f, holds a f 0 ON, at a 3, raises a f BAD")
        self.look(("unit a / open f p / while p < 1 / end / end",), ("ON",), "called a f, holds a f 0 ON, at a 3, raises a f BAD")

    def test_by_name(self):
        some = program(("unit a / open f / end",), (MAIN,))
        self.assertEqual(met(program=some, root=MAIN, values=(), most=1), met(some, MAIN, (), 1))


if __name__ == "__main__":
    unittest.main()

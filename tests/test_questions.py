"""Questions and their answers."""

import unittest

from hungfacts.errors import BadBudget, BadQuestion
from hungfacts.questions import answer
from tests.helper import program
from tests.kinds import KINDS
from tests.makers import ProgramMaker
from tests.plain_making import PlainAnswers

A = ("unit a / cell c ON / cell d 1 / open f p q / let x p + 1 / set x x - 1 / if p is ON / show p / else / show q / end / get y c"
     " / while x < 3 / let z ON / keep c z / end / try / show x / catch e / show e / end / call s l 2 / call let b.g p / do / end"
     " / end / local l r / let n r + r / give n / end / local m / show 1 / end").replace("cell d 1", "cell d BAD")
B = "unit b / open g p / let x p / show x / give x / end / open h / call x a.f ON 1 / raise x / end / open i / give 1 / end"
ROOTS = (("a", "f"),)


def told(text):
    return tuple([int(part) if part.isdigit() and at else part for at, part in enumerate(text.split(" "))])


class TestAnswers(unittest.TestCase):
    def setUp(self):
        self.some = program((A, B), ROOTS)

    def look(self, rows, budget=0):
        for row in rows.split("; "):
            question, _, expected = row.partition(" = ")
            with self.subTest(row):
                parts = [part for part in question.split(" ")]
                if parts[0] in ("reached", "fails", "ways", "caught", "put", "words"):
                    parts[-1] = int(parts[-1])
                elif parts[-1].isdigit():
                    parts[-1] = str(parts[-1])
                self.assertEqual(answer(self.some, tuple(parts), budget=budget), expected)

    def test_called(self):
        self.look("called a f = yes; called a l = yes; called a m = no; called b g = yes; called b h = no; called c f = no; "
                  "called a x = no; called b f = no")

    def test_reached(self):
        self.look("reached a 5 = yes; reached a 8 = yes; reached a 11 = yes; reached a 33 = no; reached b 3 = yes; reached b 8 = no; "
                  "reached a 4 = no; reached a 0 = no; reached a 1 = no; reached a 999 = no; reached c 3 = no")

    def test_needed(self):
        self.look("needed a f 0 = yes; needed a f p = no; needed a f 1 = yes; needed a f x = yes; needed a f y = no; "
                  "needed a f e = no; needed a l 0 = no; needed a l r = no; needed b g 0 = yes; needed b g x = yes; "
                  "needed a f 2 = no; needed a g 0 = no; needed a f zz = no")

    def test_wanted_and_read(self):
        self.look("wanted a f = yes; wanted a l = no; wanted b g = no; wanted b h = no; wanted c f = no; read a c = no; read a d = no; "
                  "read a x = no; read b c = no")

    def test_only(self):
        self.look("only a f z = ON; only a f x = -; only a f 0 = -; only a f p = -; only a l 0 = -; only a f e = -; only a f no = -; "
                  "only c f x = -; only a f s = -; only a f y = ON")
        self.some = program(("unit a / open f / let x 1 / let y NONE / call z b.g BAD / try / raise ON / catch e / end / end",
                             "unit b / open g p / give p / end"), ROOTS)
        self.look("only a f x = -; only a f y = NONE; only a f z = BAD; only b g 0 = BAD; only a f e = ON")

    def test_fails(self):
        self.look("fails a 5 = yes; fails a 6 = no; fails a 28 = no; fails a 7 = -; fails a 13 = -; fails a 4 = -; fails a 8 = -; "
                  "fails a 14 = -; fails a 99 = -; fails c 5 = -; fails b 3 = -; fails a 12 = -")
        self.some = program(("unit a / open f p / let x 1 + 2 / let y ON + 2 / let z 2 * NONE / let e x + p / let s p - x / set s x * x"
                             " / let k 3 / give 1 / let n k + 1 / end",), ROOTS)
        self.look("fails a 3 = no; fails a 4 = yes; fails a 5 = yes; fails a 6 = yes; fails a 7 = yes; fails a 8 = no; fails a 11 = no")

    def test_ways(self):
        self.look("ways a 7 = both; ways a 13 = both; ways a 5 = -; ways a 9 = -; ways a 17 = -; ways c 7 = -; ways a 0 = -")
        self.some = program(("unit a / open f p / if ON is ON / show 1 / end / if ON is NONE / end / while p is BAD / give 1 / end / raise 1"
                             " / if p is ON / end / while p < 1 / end / end",), ROOTS)
        self.look("ways a 3 = yes; ways a 6 = no; ways a 8 = both; ways a 12 = both; ways a 14 = both")

    def test_caught(self):
        self.look("caught a 17 = no; caught a 18 = -; caught a 19 = -; caught c 17 = -; caught a 17 = no")
        self.some = program(("unit a / open f p / try / let x p + 1 / catch e / end / try / catch e / show 1 / end / give 1 / try / raise 1"
                             " / catch e / end / end",), ROOTS)
        self.look("caught a 3 = yes; caught a 7 = no; caught a 12 = no")

    def test_put(self):
        for budget in (0, 1, 99):
            self.look("put a 22 = no; put a 23 = " + ("yes" if budget else "no") + "; put b 8 = no; put a 5 = -; put c 3 = -; "
                      "put a 4 = -; put a 0 = -", budget)

    def test_body_and_words(self):
        self.look("body b g = 2 p let show give; body b h = 7 call raise; body a l = 27 r let give; body a m = 31 show; body a x = -; "
                  "body c f = -; body b f = -; body a f = 4 p q let set if get while try call call do")
        self.look("words b g 0 = let x p; words b g 1 = show x; words b g 2 = give x; words b g 3 = -; words a f 2 = if p is ON; "
                  "words a f 4 = while x < 3; words a f 5 = try; words a f 8 = do; words a f 9 = -; words c f 0 = -; words b f 0 = -")

    def test_functions_without_statements(self):
        self.some = program(("unit a / open f p q / end / open g / end",), ROOTS)
        self.look("body a f = 2 p q; body a g = 4; words a f 0 = -")

    def test_arguments_by_name(self):
        self.assertEqual(answer(question=("put", "a", 23), program=self.some, budget=1), "yes")
        self.assertEqual(answer(self.some, ("put", "a", 23)), "no")
        with self.assertRaises(TypeError):
            answer(self.some, ("put", "a", 23), 1)

    def test_made_up_programs(self):
        for seed in range(12):
            maker = ProgramMaker(seed, many=3, small=0.5)
            budget = seed % 4 if seed < 9 else 99
            plain = PlainAnswers(maker.program, budget)
            places = list(plain.rows)[::3] + [("a", 2), ("zz", 3)]
            questions = [(kind, *place) for place in places for kind in ("reached", "fails", "ways", "caught", "put")]
            functions = [(name, function) for name, reading in plain.readings.items() for function in reading.functions]
            questions += [(kind, *each) for each in functions for kind in ("called", "wanted", "body")]
            questions += [("words", *each, at) for each in functions for at in (0, 2)]
            questions += [(kind, *each, name) for each in functions for kind in ("needed", "only") for name in ("0", "x")]
            for question in questions:
                with self.subTest(maker.texts, question=question):
                    self.assertEqual(answer(maker.program, question, budget=budget), plain(question))


class TestErrors(unittest.TestCase):
    def setUp(self):
        self.some = program((A, B), ROOTS)

    def wrong(self, value, budget=0):
        with self.subTest(repr(value)):
            with self.assertRaises(BadQuestion) as caught:
                answer(self.some, value, budget=budget)
            self.assertIs(caught.exception.value, value)

    def test_bad_question(self):
        for value in KINDS:
            self.wrong(value)
            self.wrong(("reached", "a", value) if value not in (0, 1, 99, 100, 10 ** 18 - 1) or value is True or value is False else value)
            for kind in ("called", "wanted", "body", "read"):
                if not isinstance(value, str):
                    self.wrong((kind, "a", value))
                    self.wrong((kind, value, "f"))
            if not isinstance(value, str):
                self.wrong((value, "a", "f"))
                self.wrong(("needed", "a", "f", value))
                self.wrong(("only", "a", value, "0"))
                self.wrong(("put", value, 3))

    def test_forms(self):
        right = [told(text) for text in ("called a f", "reached a 3", "wanted a f", "read a c", "fails a 3", "ways a 3", "caught a 3",
                                         "put a 3", "body a f", "words a f 0")] + [("needed", "a", "f", "0"), ("only", "a", "f", "0")]
        for question in right:
            self.assertIsInstance(answer(self.some, question), str)
            for value in (question[:-1], question + ("a",), question + (0,), list(question), (question,), question[1:],
                          question[:-1] + (None,), question[:-1] + (True,), question[:-1] + (-1,), question[:1] + (0,) + question[2:],
                          (question[0].upper(),) + question[1:], (question[0] + " ",) + question[1:], " ".join(map(str, question)),
                          question[:-1] + ([question[-1]],), (question[:-1] + (question[-1:],))):
                self.wrong(value)
            other = "3" if isinstance(question[-1], int) else 3
            self.wrong(question[:-1] + (other,))

    def test_unknown_kinds(self):
        for kind in ("at", "holds", "gone", "", "needs", "back", "calls", "text", "holds"):
            for rest in (("a", "f"), ("a", 3), ("a", "f", "0")):
                self.wrong((kind, *rest))

    def test_bad_budget(self):
        for value in [value for value in KINDS if value not in (0, 1, 99) or isinstance(value, bool)] + [-1, 100, "1", (1,)]:
            with self.subTest(repr(value)):
                with self.assertRaises(BadBudget) as caught:
                    answer(self.some, ("called", "a", "f"), budget=value)
                self.assertIs(caught.exception.value, value)
                self.wrong(("called", "a"), value)
        for value in (0, 1, 50, 98, 99):
            self.assertEqual(answer(self.some, ("called", "a", "f"), budget=value), "yes")


if __name__ == "__main__":
    unittest.main()

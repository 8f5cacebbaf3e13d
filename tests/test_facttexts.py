"""Facts and summaries as texts."""

import random
import unittest

from hungfacts.clauses import clauses
from hungfacts.errors import BadFact, BadText
from hungfacts.facttexts import read_fact, read_summary, show_fact, show_summary
from hungfacts.summaries import summary
from tests.helper import unit
from tests.kinds import KINDS
from tests.makers import ProgramMaker, UnitMaker

FACTS = (("at", "m", 3), ("yes", "b", 1), ("no", "a1", 999999999), ("holds", "k", "k", "0", "NONE"), ("holds", "k", "g", "x9", "num"),
         ("keeps", "b", "c", "ON"), ("keeps", "b", "c", "num"), ("called", "abc123", "f"), ("back", "b", "is"), ("gives", "b", "g", "num"),
         ("gives", "b", "g", "BAD"), ("raises", "b", "g", "ABCDEF"), ("needs", "b", "g", "2"), ("needs", "b", "g", "x"),
         ("wants", "b", "g"), ("reads", "b", "c"))
NAMES = ("a", "z9", "abcdef", "end", "num", "x0")
NO_NAMES = ("", "A", "0a", "abcdefg", "a_b", "a.b", "a b", "\u00e4", "a\n", " a", "9", "_a", "ON", "a1B")
WORDS = ("A", "ON", "NONE", "BAD", "ABCDEF")
NO_WORDS = ("", "on", "ABCDEFG", "O N", "O1", "\u00c4", "ON\n", "1", "Num")
LINES = (1, 9, 10, 999999999)
NO_LINES = ("0", "00", "01", "-1", "+1", "1000000000", "1.0", "a", "", "\u0661", "1 ", "ON", "1_0")


class TestFacts(unittest.TestCase):
    def bad_text(self, value):
        with self.assertRaises(BadText) as caught:
            read_fact(value)
        self.assertEqual(caught.exception.line, 0)

    def bad_fact(self, value):
        with self.assertRaises(BadFact) as caught:
            show_fact(value)
        self.assertIs(caught.exception.value, value)

    def right(self, fact):
        text = " ".join(map(str, fact))
        self.assertEqual(show_fact(fact), text)
        self.assertEqual(read_fact(text), fact)
        self.assertEqual([type(part) for part in read_fact(text)], [type(part) for part in fact])

    def both_bad(self, fact):
        self.bad_fact(fact)
        self.bad_text(" ".join(map(str, fact)))

    def test_section_16(self):
        self.assertEqual(read_fact("at m 3"), ("at", "m", 3))
        self.assertEqual(show_fact(("holds", "k", "k", "0", "NONE")), "holds k k 0 NONE")

    def test_each_sort(self):
        for fact in FACTS:
            self.right(fact)

    def test_names(self):
        for fact in FACTS:
            for at in range(1, len(fact)):
                if fact[at] in ("m", "b", "k", "a1", "abc123", "f", "is", "g", "c"):
                    for name in NAMES:
                        self.right(fact[:at] + (name,) + fact[at + 1:])
                    for name in NO_NAMES + ("1",):
                        self.both_bad(fact[:at] + (name,) + fact[at + 1:])

    def test_places_and_names(self):
        for fact in (("holds", "a", "f", "x", "ON"), ("needs", "a", "f", "x")):
            for place in ("0", "1", "2") + NAMES:
                self.right(fact[:3] + (place,) + fact[4:])
            for place in ("3", "00", "01", "-1", "10", "+0") + NO_NAMES:
                self.both_bad(fact[:3] + (place,) + fact[4:])

    def test_words_and_worths(self):
        for fact in (("holds", "a", "f", "x"), ("keeps", "a", "c"), ("gives", "a", "f"), ("raises", "a", "f")):
            for word in WORDS:
                self.right(fact + (word,))
            for word in NO_WORDS:
                self.both_bad(fact + (word,))
            if fact[0] == "raises":
                self.both_bad(fact + ("num",))
            else:
                self.right(fact + ("num",))

    def test_lines(self):
        for kind in ("at", "yes", "no"):
            for line in LINES:
                self.right((kind, "a", line))
            for line in (0, -1, 1000000000, 10 ** 17):
                self.both_bad((kind, "a", line))
            for text in NO_LINES:
                self.bad_text(f"{kind} a {text}")
            for value in ("3", True, False, None, (3,), [3]):
                self.bad_fact((kind, "a", value))

    def test_parts_left_out_and_twice(self):
        for fact in FACTS:
            for at in range(len(fact)):
                self.both_bad(fact[:at] + fact[at + 1:])
                self.both_bad(fact[:at + 1] + fact[at:])
            for other in (["called"], "wants", "unlike", "other", "", "AT", "facts", None, 1, ("at",)):
                if (other,) + fact[1:] not in FACTS and not (other in ("wants",) and len(fact) == 3 and isinstance(fact[2], str)):
                    self.bad_fact((other,) + fact[1:])

    def test_other_kinds_of_parts(self):
        for fact in FACTS:
            for at in range(len(fact)):
                for value in KINDS + (("a",), ["a"], {"a": 1}):
                    if not isinstance(value, (str, int)):
                        self.bad_fact(fact[:at] + (value,) + fact[at + 1:])
            self.bad_fact(list(fact))

    def test_any_value(self):
        for value in KINDS:
            if value not in FACTS + (("called", "a", "f"), ("at", "a", 3)):
                self.bad_fact(value)
            if value != "at a 3":
                self.bad_text(value)

    def test_blanks(self):
        for text in ("at m 3", "called b g", "holds k k 0 NONE"):
            for wrong in (" " + text, text + " ", text.replace(" ", "  ", 1), text + "\n", "\n" + text, text.replace(" ", "\t", 1),
                          text.replace(" ", "\n", 1), text.upper(), text + " " + text):
                self.bad_text(wrong)

    def test_facts_of_programs(self):
        for seed in range(20):
            for head, premises in clauses(ProgramMaker(seed).program):
                for fact in (head, *premises):
                    self.right(fact)

    def test_names_of_arguments(self):
        self.assertEqual(read_fact(text=show_fact(fact=("at", "a", 1))), ("at", "a", 1))


class TestSummaries(unittest.TestCase):
    maxDiff = None

    def bad(self, text, line):
        with self.assertRaises(BadText) as caught:
            read_summary(text)
        self.assertEqual(caught.exception.line, line, text)

    def test_section_16(self):
        text = show_summary(unit("unit b / open g / call x c.h / end"))
        self.assertEqual(text.split("\n"), [
            "back b g <- back c h, called b g", "called c h <- called b g", "gives b g NONE <- back c h, called b g",
            "raises b g BAD <- called b g, raises c h BAD", "raises b g NONE <- called b g, raises c h NONE",
            "raises b g ON <- called b g, raises c h ON"])
        self.assertEqual(read_summary(text), summary(unit("unit b / open g / call x c.h / end")))

    def test_several_cases(self):
        text = show_summary(unit("unit k / open k p q / if p is ON / give q / end / call x v.g q / give x / end", ("ON", "OFF")))
        rows = [row for row in text.split("\n") if row.startswith("gives k k ON ")]
        self.assertEqual(rows, ["gives k k ON <- gives v g ON, holds k k 1 ON", "gives k k ON <- gives v g ON, unlike k k 0 ON",
                                "gives k k ON <- holds k k 0 ON, holds k k 1 ON"])

    def test_what_is_written_is_read_back(self):
        for seed in range(60):
            some = UnitMaker(seed, lines=(4, 20)).unit
            text = show_summary(some)
            self.assertEqual(read_summary(text), summary(some))
            self.assertEqual(text.count("\n") + 1 if text else 0, sum(len(cases) for _, cases in summary(some)))

    def test_without_lines(self):
        self.assertEqual(read_summary(""), ())
        self.assertEqual(show_summary(unit("unit a / local f / end")), "")

    def test_no_string(self):
        for value in KINDS:
            if not isinstance(value, str):
                self.bad(value, 0)
            elif value:
                self.bad(value, 1)

    RIGHT = ("called v g <- called a f", "gives a f ON <- back v g", "gives a f ON <- called a f, gives v g ON",
             "gives a f ON <- called a f, other v g num", "holds v g 0 ON <- holds a f 0 ON", "raises a f BAD <- called a f",
             "wants v g <- wants a f")

    def test_order(self):
        right = self.RIGHT
        self.assertEqual([output for output, _ in read_summary("\n".join(right))],
                         [("called", "v", "g"), ("gives", "a", "f", "ON"), ("holds", "v", "g", "0", "ON"), ("raises", "a", "f", "BAD"),
                          ("wants", "v", "g")])
        self.assertEqual(read_summary("\n".join(right))[1][1], (
            (("back", "v", "g"),), (("called", "a", "f"), ("gives", "v", "g", "ON")), (("called", "a", "f"), ("other", "v", "g", "num"))))
        for at in range(len(right)):
            self.assertEqual(sum(len(cases) for _, cases in read_summary("\n".join(right[:at] + right[at + 1:]))), len(right) - 1)
            # Twice, exchanged, and further down.
            self.bad("\n".join(right[:at + 1] + right[at:]), at + 2)
            if at:
                self.bad("\n".join(right[:at - 1] + right[at:at + 1] + right[at - 1:at] + right[at + 1:]), at + 1)
                self.bad("\n".join(right[1:at + 1] + right[:1] + right[at + 1:]), at + 1)
        # Lines of one output stand together.
        self.bad("\n".join(right[:2] + right[4:5] + right[2:4]), 4)

    def test_forms(self):
        for at, row in enumerate(self.RIGHT):
            head, tail = row.split(" <- ")
            for wrong in ("", head, f"{head} <-", f"{head} <- ", f" <- {tail}", f"<- {tail}", f"{head}<- {tail}", f"{head} <-{tail}",
                          f"{head}  <- {tail}", f"{head} <-  {tail}", f"{head} -> {tail}", f"{tail}", f"{row} ", f" {row}", f"{row},",
                          f"{row}, ", f"{row},{tail}", f"{row}, {tail}", f"{row} <- {tail}", f"{head}, {head} <- {tail}", f"{row}\t",
                          row.upper(), f"{head} <- at a 3", f"{head} <- yes a 3", f"{head} <- keeps a c ON", f"{head} <- reads a c",
                          f"{head} <- unlike a f x ON", f"{head} <- holds a f x ON", f"{head} <- needs v g x", f"{head} <- other v g",
                          f"{head} <- unlike a f 3 ON", f"{head} <- raises v g num", f"{head} <- holds a f 0", f"{head} <- like a f 0 ON",
                          f"at a 3 <- {tail}", f"keeps a c ON <- {tail}", f"reads a c <- {tail}", f"unlike a f 0 ON <- {tail}",
                          f"other v g ON <- {tail}", f"needs a f x <- {tail}", f"holds v g x ON <- {tail}", f"no a 3 <- {tail}"):
                self.bad("\n".join(self.RIGHT[:at] + (wrong,) + self.RIGHT[at + 1:]), at + 1 if wrong or len(self.RIGHT) > 1 else 0)
            self.bad("\n".join(self.RIGHT[:at + 1]) + "\n", at + 2)
            self.bad("\n".join(self.RIGHT[:at] + ("nothing",) + self.RIGHT[at + 1:] + ("nothing", "")), at + 1)
        self.bad("\n", 1)
        self.bad("\n" + self.RIGHT[0], 1)

    def test_conditions_ascend(self):
        for tail in ("called a f, back v g", "back v g, back v g", "holds a f 1 ON, holds a f 0 ON", "wants a f, unlike a f 0 ON, holds a f 0 ON"):
            self.bad(f"called v g <- {tail}", 1)
        for tail in ("back v g, called a f", "holds a f 0 ON, unlike a f 0 ON", "needs v g 0, other v g num, raises v g BAD"):
            self.assertEqual(len(read_summary(f"called v g <- {tail}")[0][1][0]), tail.count(",") + 1)

    def test_more_is_not_asked(self):
        # Conditions that include one another, cases that cover one another, units and worths of any kind.
        text = "back a f <- called a f\nback a f <- called a f, holds a f 0 ZZZ\nback b g <- gives q q num, wants z z"
        self.assertEqual(len(read_summary(text)), 2)
        self.assertEqual(read_summary("called a f <- called a f"), ((("called", "a", "f"), ((("called", "a", "f"),),)),))

    def test_made_up_spoiling(self):
        for seed in range(40):
            luck = random.Random(seed)
            rows = show_summary(UnitMaker(seed, lines=(4, 16)).unit).split("\n")
            for _ in range(20):
                at = luck.randrange(len(rows))
                other = rows[:at] + [rows[at].replace(*luck.choice(((" ", "  "), (" <- ", ", "), ("0", "3"), ("ON", "on"), ("u", "U"))))] + rows[at + 1:]
                if other != rows:
                    self.bad("\n".join(other), at + 1)
                two = luck.sample(range(len(rows)), min(2, len(rows)))
                if len(two) == 2:
                    one, more = sorted(two)
                    turned = rows[:one] + [rows[more]] + rows[one + 1:more] + [rows[one]] + rows[more + 1:]
                    with self.assertRaises(BadText):
                        read_summary("\n".join(turned))

    def test_names_of_arguments(self):
        some = unit("unit b / open g / call x c.h / end")
        self.assertEqual(read_summary(text=show_summary(unit=some)), summary(some))


if __name__ == "__main__":
    unittest.main()

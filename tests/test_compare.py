"""Made-up units and spoiled ones, read and told in clauses a second time by tests/plain.py."""

import random
import unittest

from hungfacts.clauses import unit_clauses
from hungfacts.units import Unit
from tests.helper import bad_line
from tests.plain import plain_clauses, plain_line

POOL = ("a", "b", "c", "x", "y", "z", "p", "ON", "OFF", "NONE", "BAD", "0", "7", "-3", "let", "set", "if", "is", "<", "+",
        "-", "*", "end", "else", "catch", "try", "do", "show", "give", "raise", "call", "get", "keep", "while", "v.g",
        "v.h", "open", "local", "cell", "unit", "", "-0", "f", "g", "OF", "u.f", "catch e", "show 1")


class Maker:
    """Makes up the lines of a right unit."""

    def __init__(self, seed):
        self.luck = random.Random(seed)
        self.words = self.luck.choice([("ON",), ("ON", "OFF"), ("OFF", "ON", "A")])
        self.cells = self.luck.sample(["c", "d", "f"], self.luck.randrange(3))
        self.locals = [("g", 0), ("h", 2)][:self.luck.randrange(3)]
        self.others = [("v.g", 1), ("v.h", 0), ("w.f", 3)]
        self.rows = ["unit u"] + [f"cell {name} {self.word()}" for name in self.cells]
        heads = [("local", *each) for each in self.locals] + [("open", "f", 2), ("open", "m", 0)]
        self.luck.shuffle(heads)
        for kind, name, many in heads:
            self.params = self.luck.sample(["p", "q", "x"], many)
            self.rows.append(" ".join([kind, name] + self.params))
            self.part(list(self.params), 3, 5)
            self.rows.append("end")

    def word(self):
        return self.luck.choice(self.words + ("NONE", "BAD"))

    def operand(self, scope):
        return self.luck.choice(scope + scope + [self.word(), str(self.luck.randrange(-9, 9))])

    def test(self, scope):
        if self.luck.random() < 0.5:
            return f"{self.operand(scope)} is {self.word()}"
        return f"{self.operand(scope)} < {self.operand(scope)}"

    def part(self, scope, deep, most):
        for _ in range(self.luck.randrange(most)):
            self.statement(scope, deep)

    def statement(self, scope, deep):
        free = [name for name in ("x", "y", "z", "e", "s", "let", "is") if name not in scope + self.cells]
        kind = self.luck.choice(["let", "set", "call", "get", "keep", "show", "give", "raise"] + ["block"] * 4)
        settable = [name for name in scope if name not in self.params]
        term = self.operand(scope)
        if self.luck.random() < 0.5:
            term += " " + self.luck.choice("+-*") + " " + self.operand(scope)
        if kind == "let" and free:
            self.rows.append(f"let {free[0]} {term}")
        elif kind == "set" and settable:
            self.rows.append(f"set {self.luck.choice(settable)} {term}")
        elif kind == "call" and free:
            name, many = self.luck.choice(self.others + self.locals)
            self.rows.append(" ".join(["call", free[0], name] + [self.operand(scope) for _ in range(many)]))
        elif kind == "get" and free and self.cells:
            self.rows.append(f"get {free[0]} {self.luck.choice(self.cells)}")
        elif kind == "keep" and self.cells:
            self.rows.append(f"keep {self.luck.choice(self.cells)} {self.operand(scope)}")
        elif kind == "block" and deep:
            self.block(scope, deep - 1, free)
        else:
            self.rows.append(f"{self.luck.choice(['show', 'give', 'raise'])} {self.operand(scope)}")
        if self.rows[-1].split(" ")[0] in ("let", "call", "get"):
            scope.append(self.rows[-1].split(" ")[1])

    def block(self, scope, deep, free):
        word = self.luck.choice(["if", "else", "while", "try", "try", "do"])
        test = f" {self.test(scope)}" if word in ("if", "else", "while") else ""
        self.rows.append({"else": "if"}.get(word, word) + test)
        self.part(list(scope), deep, 4)
        if word == "else":
            self.rows.append("else")
            self.part(list(scope), deep, 4)
        elif word == "try" and free:
            self.rows.append(f"catch {free[0]}")
            self.part(scope + free[:1], deep, 4)
        elif word == "try":
            self.rows.append("catch last")
            self.part(list(scope), deep, 4)
        self.rows.append("end")


def spoiled(rows, luck):
    """The rows with one change."""
    rows = list(rows)
    at = luck.randrange(len(rows))
    kind = luck.randrange(6)
    if kind == 0:
        del rows[at]
    elif kind == 1:
        rows.insert(at, rows[luck.randrange(len(rows))])
    elif kind == 2:
        rows.insert(at, luck.choice(POOL))
    else:
        words = rows[at].split(" ")
        spot = luck.randrange(len(words))
        words[spot:spot + luck.choice([0, 1, 1, 1])] = luck.choice([[], [luck.choice(POOL)], [luck.choice(POOL)]])
        rows[at] = " ".join(words)
    return rows


class TestCompare(unittest.TestCase):
    def test_right_units(self):
        for seed in range(150):
            maker = Maker(seed)
            text = "\n".join(maker.rows)
            with self.subTest(text):
                self.assertIsNone(plain_line(maker.words, text))
                self.assertEqual(unit_clauses(Unit(maker.words, text)), plain_clauses(maker.words, text))

    def test_spoiled_units(self):
        told = {}
        for seed in range(60):
            maker = Maker(seed)
            luck = random.Random(-1 - seed)
            rows = maker.rows
            for _ in range(40):
                text = "\n".join(spoiled(rows, luck))
                expected = plain_line(maker.words, text)
                told[expected is None] = told.get(expected is None, 0) + 1
                with self.subTest(text):
                    self.assertEqual(bad_line(text, maker.words), expected)
                    if expected is None:
                        self.assertEqual(unit_clauses(Unit(maker.words, text)), plain_clauses(maker.words, text))
        self.assertGreater(told[True], 100)
        self.assertGreater(told[False], 1000)


if __name__ == "__main__":
    unittest.main()

"""Makes up right programs of several units that call one another."""

import random

from hungfacts.programs import Program
from hungfacts.units import Unit

KINDS = ["let", "set", "call", "call", "call", "get", "keep", "show", "show", "leave"] + ["block"] * 4
NAMES = ("x", "y", "z", "e", "s", "let", "is")


class ProgramMaker:
    """Makes up a program; roots are some of its open functions."""

    def __init__(self, seed, many=None, size=4, deep=3, words=None, lines=(0, 60), small=0):
        self.luck = random.Random(seed)
        self.words = words or self.luck.choice([("ON",), ("ON", "OFF"), ("OFF", "ON", "A")])
        self.size, self.deep, self.small = size, deep, small
        names = ["a", "b", "c", "d", "k", "m"][:many or self.luck.randrange(1, 5)]
        self.shared = {name: [("f", self.luck.randrange(3)), ("g", self.luck.randrange(2))][:self.luck.randrange(1, 3)]
                       for name in names}
        self.texts = [self.unit_between(name, *lines) for name in names]
        every = [(name, function) for name in names for function, _ in self.shared[name]]
        self.roots = tuple(sorted(self.luck.sample(every, self.luck.randrange((len(every) + 1) // 2, len(every) + 1))))
        self.program = Program(tuple([Unit(self.words, text) for text in self.texts]), self.roots)

    def many_of(self, root):
        return dict(self.shared[root[0]])[root[1]]

    def values(self, root):
        return tuple([self.luck.choice([self.word(), self.luck.randrange(-5, 9)]) for _ in range(self.many_of(root))])

    def unit_between(self, name, least, most):
        """The text of a unit with so many lines."""
        while True:
            text = self.text_of(name)
            if least <= text.count("\n") + 1 <= most:
                return text

    def text_of(self, name):
        self.cells = self.luck.sample(["c", "d"], self.luck.randrange(3))
        self.locals = [("h", self.luck.randrange(2)), ("i", 1)][:self.luck.randrange(3)]
        self.others = [(f"{other}.{function}", many) for other, functions in self.shared.items() if other != name
                       for function, many in functions]
        heads = [("local", *each) for each in self.locals] + [("open", *each) for each in self.shared[name]]
        self.luck.shuffle(heads)
        self.rows = [f"unit {name}"] + [f"cell {cell} {self.word()}" for cell in self.cells]
        for kind, function, many in heads:
            # Most calls lead on to later units, so that they come back.
            self.calls = [each for each in self.others if each[0] > name] + self.locals * (kind == "open")
            self.params = self.luck.sample(["p", "q", "x"], many)
            self.rows.append(" ".join([kind, function] + self.params))
            if self.luck.random() < self.small and kind == "open":
                self.small_part(list(self.params))
            else:
                self.part(list(self.params), self.deep, self.size + 2)
            self.rows.append("end")
        return "\n".join(self.rows)

    def small_part(self, scope):
        """Up to two lets, calls and shows, then a give."""
        for _ in range(self.luck.randrange(3)):
            self.statement(scope, 0, ["let", "let", "call", "show"])
        self.rows.append(f"give {self.operand(scope)}")

    def word(self):
        return self.luck.choice(self.words + ("NONE", "BAD"))

    def operand(self, scope):
        return self.luck.choice(scope + scope + scope + [self.word(), str(self.luck.randrange(-3, 4))])

    def number(self, scope):
        """An operand that may be an integer, most times."""
        if self.luck.random() < 0.1:
            return self.operand(scope)
        return self.luck.choice(scope + scope + [str(self.luck.randrange(-3, 4))])

    def test(self, scope):
        if self.luck.random() < 0.6:
            return f"{self.luck.choice(scope) if scope else self.operand(scope)} is {self.word()}"
        return f"{self.number(scope)} < {self.number(scope)}"

    def part(self, scope, deep, most):
        for _ in range(self.luck.choice([0] + list(range(1, most)) * 2)):
            self.statement(scope, deep)
        if self.luck.random() < 0.3 or deep == self.deep and self.luck.random() < 0.5:
            self.rows.append(f"{self.luck.choice(['give', 'give', 'raise'])} {self.operand(scope)}")

    def term(self, scope):
        if self.luck.random() < 0.6:
            return self.operand(scope)
        return f"{self.number(scope)} {self.luck.choice('+-*')} {self.number(scope)}"

    def statement(self, scope, deep, kinds=KINDS):
        free = [name for name in NAMES if name not in scope + self.cells]
        kind = self.luck.choice(kinds)
        settable = [name for name in scope if name not in self.params]
        calls = self.calls if self.luck.random() < 0.9 else self.others + self.locals
        row = f"show {self.operand(scope)}"
        if kind == "let" and free:
            row = f"let {free[0]} {self.term(scope)}"
        elif kind == "set" and settable:
            row = f"set {self.luck.choice(settable)} {self.term(scope)}"
        elif kind == "call" and free and calls:
            name, many = self.luck.choice(calls)
            row = " ".join(["call", free[0], name] + [self.operand(scope) for _ in range(many)])
        elif kind == "get" and free and self.cells:
            row = f"get {free[0]} {self.luck.choice(self.cells)}"
        elif kind == "keep" and self.cells:
            row = f"keep {self.luck.choice(self.cells)} {self.operand(scope)}"
        elif kind == "leave" and self.luck.random() < 0.3:
            row = f"{self.luck.choice(['give', 'give', 'raise'])} {self.operand(scope)}"
        elif kind == "block" and deep:
            self.block(scope, deep - 1, free)
            return
        self.rows.append(row)
        if row.split(" ")[0] in ("let", "call", "get"):
            scope.append(row.split(" ")[1])

    def block(self, scope, deep, free):
        word = self.luck.choice(["if", "if", "else", "while", "try", "try", "do"] if free else ["do"])
        test = f" {self.test(scope)}" if word in ("if", "else", "while") else ""
        self.rows.append({"else": "if"}.get(word, word) + test)
        self.part(list(scope), deep, self.size)
        if word == "else":
            self.rows.append("else")
            self.part(list(scope), deep, self.size)
        elif word == "try":
            self.rows.append(f"catch {free[0]}")
            self.part(scope + free[:1], deep, self.size)
        self.rows.append("end")


class UnitMaker(ProgramMaker):
    """Makes up one unit u that calls functions of other units.

    opens, asks: how many open functions it has, and how many functions of other units it may call, from
    the first number up to below the second one. params, operands: how many of these they take, likewise.
    """

    def __init__(self, seed, opens=(1, 3), asks=(0, 4), words=("ON", "OFF"), lines=(8, 24), params=(0, 3), operands=(0, 3)):
        self.luck = random.Random(seed)
        self.words, self.size, self.deep, self.small = words, 4, 3, 0
        others = [("v", "g"), ("v", "h"), ("w", "f")][:self.luck.randrange(*asks)]
        self.shared = {"u": [(name, self.luck.randrange(*params)) for name in ("f", "g")[:self.luck.randrange(*opens)]]}
        for home, name in others:
            self.shared.setdefault(home, []).append((name, self.luck.randrange(*operands)))
        self.text = self.unit_between("u", *lines)
        self.unit = Unit(words, self.text)

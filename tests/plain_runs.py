"""Runs along the document, by trees and by Python's own calls and errors."""

from collections import ChainMap

from tests.plain import NAME, Reading

MODULUS = 1000003


class Tired(Exception):
    pass


class Given(Exception):
    def __init__(self, value):
        super().__init__(value)
        self.value = value


class Fault(Exception):
    def __init__(self, word, places):
        super().__init__(word)
        self.word, self.places = word, places


class PlainRun:
    """A run; outcome is what run returns, steps what steps tells, met what met returns."""

    def __init__(self, words, texts, root, values, most):
        self.readings = {reading.unit: reading for reading in [Reading(words, text) for text in texts]}
        self.cells = {(name, cell): word for name, reading in self.readings.items() for cell, word in reading.cells.items()}
        self.most, self.goes = most, 0
        self.stack, self.shown, self.steps = [], [], []
        self.met = {("keeps", name, cell, word) for (name, cell), word in self.cells.items()}
        try:
            self.outcome = ("gave", self.call(root, values), tuple(self.shown))
        except Tired:
            self.outcome = ("tired",)
        except Fault as fault:
            self.outcome = ("raised", fault.word, fault.places, tuple(self.shown))
        self.met = tuple(sorted(self.met))

    def worth(self, value):
        return value if isinstance(value, str) else "num"

    def go(self):
        self.goes += 1
        if self.goes > self.most:
            raise Tired

    def places(self):
        return tuple((home, line) for home, line, *_ in reversed(self.stack))

    def call(self, called, values):
        self.go()
        _, _, _, params, part, end = self.readings[called[0]].functions[called[1]]
        self.met.add(("called", *called))
        scope = ChainMap()
        self.stack.append([called[0], None, called[1], params])
        for param, value in zip(params, values):
            self.name(scope, param, value)
        try:
            self.part(part, end, scope)
            value = "NONE"
        except Given as given:
            value = given.value
        except Fault as fault:
            self.met.add(("raises", *called, fault.word))
            self.stack.pop()
            raise
        self.met |= {("gives", *called, self.worth(value)), ("back", *called)}
        self.stack.pop()
        return value

    def name(self, scope, name, value):
        home, _, function, params = self.stack[-1]
        next((each for each in scope.maps if name in each), scope)[name] = value
        place = str(params.index(name)) if name in params else name
        self.met.add(("holds", home, function, place, self.worth(value)))

    def fact(self, *parts):
        self.met.add((parts[0], self.stack[-1][0], *parts[1:]))

    def part(self, part, closer, scope):
        """Do the statements of a part, whose names stand in a scope of their own."""
        inner = scope.new_child()
        for row in part:
            self.come(row, inner)
            getattr(self, f"do_{row[1][0]}")(row, row[1][1:], inner)
        self.fact("at", closer)

    def come(self, row, scope):
        self.stack[-1][1] = row[0]
        self.fact("at", row[0])
        self.steps.append((self.places(), tuple(sorted(scope.items()))))

    def value(self, operand, scope):
        if NAME.fullmatch(operand):
            return scope[operand]
        return operand if operand[0].isupper() else int(operand)

    def bad(self):
        raise Fault("BAD", self.places())

    def do_let(self, row, rest, scope):
        values = [self.value(operand, scope) for operand in rest[1::2]]
        if len(values) == 2:
            if str in map(type, values):
                self.bad()
            one, other = values
            values = [{"+": one + other, "-": one - other, "*": one * other}[rest[2]] % MODULUS]
        self.name(scope, rest[0], values[0])

    do_set = do_let

    def do_call(self, row, rest, scope):
        home = self.stack[-1][0]
        called = tuple(rest[1].split(".")) if "." in rest[1] else (home, rest[1])
        self.name(scope, rest[0], self.call(called, [self.value(operand, scope) for operand in rest[2:]]))

    def do_get(self, row, rest, scope):
        self.name(scope, rest[0], self.cells[self.stack[-1][0], rest[1]])

    def do_keep(self, row, rest, scope):
        value = self.cells[self.stack[-1][0], rest[0]] = self.value(rest[1], scope)
        self.fact("keeps", rest[0], self.worth(value))

    def do_show(self, row, rest, scope):
        self.shown.append(self.value(rest[0], scope))

    def do_give(self, row, rest, scope):
        raise Given(self.value(rest[0], scope))

    def do_raise(self, row, rest, scope):
        value = self.value(rest[0], scope)
        raise Fault("BAD" if self.worth(value) == "num" else value, self.places())

    def test(self, row, rest, scope):
        one = self.value(rest[0], scope)
        if rest[1] == "is":
            held = one == rest[2]
        else:
            other = self.value(rest[2], scope)
            if str in (type(one), type(other)):
                self.bad()
            held = one < other
        self.fact("yes" if held else "no", row[0])
        return held

    def do_if(self, row, rest, scope):
        if self.test(row, rest, scope):
            self.part(row[2], row[3] or row[5], scope)
        elif row[3]:
            self.part(row[4], row[5], scope)
        else:
            self.fact("at", row[5])

    def do_while(self, row, rest, scope):
        while True:
            self.go()
            if not self.test(row, rest, scope):
                return
            self.part(row[2], row[5], scope)
            self.come(row, scope)

    def do_do(self, row, rest, scope):
        self.part(row[2], row[5], scope)

    def do_try(self, row, rest, scope):
        depth = len(self.stack)
        try:
            self.part(row[2], row[3], scope)
        except Fault as fault:
            assert len(self.stack) == depth
            inner = scope.new_child()
            self.name(inner, row[6], fault.word)
            self.part(row[4], row[5], inner)

"""A second reading of units and a second making of clauses, along the document, by trees."""

import re

NAME = re.compile("[a-z][a-z0-9]{0,5}")
NUMERAL = re.compile("0|-?[1-9][0-9]{0,8}")


class Wrong(Exception):
    def __init__(self, line):
        super().__init__(line)
        self.line = line


class Reading:
    """Reads recursively; a statement is [line, words, first part, middle line, second part, end line]."""

    def __init__(self, words, text):
        self.capitals = set(words) | {"NONE", "BAD"}
        self.lines = text.split("\n")
        self.at = 0
        self.cells = {}
        self.functions = {}
        self.many = {}
        self.calls = []
        self.read()

    def need(self, right):
        if not right:
            raise Wrong(self.at)

    def next(self):
        self.at += 1
        if self.at > len(self.lines):
            raise Wrong(self.at)
        return self.lines[self.at - 1].split(" ")

    def name(self, text):
        return NAME.fullmatch(text) is not None

    def read(self):
        words = self.next()
        self.need(len(words) == 2 and words[0] == "unit" and self.name(words[1]))
        self.unit = words[1]
        while self.at < len(self.lines) or not self.functions:
            words = self.next()
            if words[0] == "cell":
                self.need(not self.functions and len(words) == 3 and self.name(words[1]))
                self.need(words[1] not in self.cells and words[2] in self.capitals)
                self.cells[words[1]] = words[2]
            else:
                self.function(words)
        for line, name, many in self.calls:
            if name not in self.functions or self.functions[name][0] == "open" or self.functions[name][2] != many:
                raise Wrong(line)

    def function(self, words):
        self.need(words[0] in ("open", "local") and 2 <= len(words) <= 5 and all(map(self.name, words[1:])))
        params = words[2:]
        self.need(len(set(params)) == len(params) and not set(params) & set(self.cells))
        self.need(words[1] not in self.functions)
        row = self.functions[words[1]] = [words[0], self.at, len(params), params, None, None]
        self.params = params
        row[4], _ = self.part(frozenset(params), ("end",))
        row[5] = self.at

    def part(self, scope, closers):
        """The statements up to a line that begins with one of the closers, and the words of this."""
        found = []
        while True:
            words = self.next()
            if words[0] in closers:
                self.need(len(words) == (2 if words[0] == "catch" else 1))
                return found, words
            found.append(self.statement(words, scope))
            if words[0] in ("let", "call", "get"):
                scope = scope | {words[1]}

    def operand(self, text, scope):
        return text in self.capitals or NUMERAL.fullmatch(text) is not None or text in scope

    def fresh(self, text, scope):
        self.need(self.name(text) and text not in scope and text not in self.cells)

    def operands(self, texts, scope):
        self.need(all(self.operand(text, scope) for text in texts))

    def statement(self, words, scope):
        row = [self.at, words, None, None, None, self.at]
        word, rest = words[0], words[1:]
        if word in ("let", "set"):
            self.need(len(rest) == 2 or len(rest) == 4 and rest[2] in "+ - *".split())
            self.operands(rest[1::2], scope)
            if word == "let":
                self.fresh(rest[0], scope)
            else:
                self.need(rest[0] in scope and rest[0] not in self.params)
        elif word == "call":
            self.call(rest, scope)
        elif word == "get":
            self.need(len(rest) == 2 and rest[1] in self.cells)
            self.fresh(rest[0], scope)
        elif word == "keep":
            self.need(len(rest) == 2 and rest[0] in self.cells)
            self.operands(rest[1:], scope)
        elif word in ("show", "give", "raise"):
            self.need(len(rest) == 1)
            self.operands(rest, scope)
        else:
            self.block(row, word, rest, scope)
        return row

    def call(self, rest, scope):
        self.need(2 <= len(rest) <= 5)
        self.fresh(rest[0], scope)
        self.operands(rest[2:], scope)
        parts, many = rest[1].split("."), len(rest) - 2
        self.need(len(parts) < 3 and all(map(self.name, parts)))
        if len(parts) == 1:
            self.calls.append((self.at, parts[0], many))
        else:
            self.need(parts[0] != self.unit and self.many.setdefault(tuple(parts), many) == many)

    def block(self, row, word, rest, scope):
        if word in ("if", "while"):
            self.need(len(rest) == 3 and rest[1] in ("is", "<"))
            self.operands(rest[::2] if rest[1] == "<" else rest[:1], scope)
            self.need(rest[1] == "<" or rest[2] in self.capitals)
        else:
            self.need(word in ("try", "do") and not rest)
        row[2], words = self.part(scope, {"if": ("else", "end"), "try": ("catch",)}.get(word, ("end",)))
        if words[0] != "end":
            row[3] = self.at
            if words[0] == "catch":
                self.fresh(words[1], scope)
                row.append(words[1])
                scope = scope | {words[1]}
            row[4], _ = self.part(scope, ("end",))
        row[5] = self.at


class Clauses:
    def __init__(self, words, text):
        self.reading = Reading(words, text)
        self.u = self.reading.unit
        self.words = list(words) + ["NONE", "BAD"]
        self.worths = self.words + ["num"]
        self.found = set()
        for cell, word in self.reading.cells.items():
            self.rule(("keeps", self.u, cell, word))
        for name, (_, line, _, params, part, end) in self.reading.functions.items():
            self.f, self.params = name, params
            self.rule(self.at(self.first(part, end)), ("called", self.u, name))
            for worth in self.worths:
                self.rule(("back", self.u, name), ("gives", self.u, name, worth))
            self.rule(("gives", self.u, name, "NONE"), self.at(end))
            self.part(part, end, None)

    def rule(self, fact, *premises):
        if None not in premises and fact is not None:
            self.found.add((fact, tuple(sorted({each for each in premises if each != ()}))))

    def at(self, line):
        return ("at", self.u, line)

    def first(self, part, closer):
        return part[0][0] if part else closer

    def place(self, name):
        return str(self.params.index(name)) if name in self.params else name

    def h(self, operand, worth):
        """A premise; () for none; None if there is no such clause."""
        if NAME.fullmatch(operand):
            return ("holds", self.u, self.f, self.place(operand), worth)
        return () if worth == ("num" if NUMERAL.fullmatch(operand) else operand) else None

    def n(self, operand):
        return ("needs", self.u, self.f, self.place(operand)) if NAME.fullmatch(operand) else None

    def x(self, name, worth):
        return ("holds", self.u, self.f, name, worth)

    def fault(self, handler, word, *premises):
        if handler is None:
            self.rule(("raises", self.u, self.f, word), *premises)
        else:
            self.rule(self.x(handler[0], word), *premises)
            self.rule(self.at(handler[1]), *premises)

    def part(self, part, closer, handler):
        for row, behind in zip(part, [row[0] for row in part[1:]] + [closer]):
            self.statement(row, behind, handler)

    def statement(self, row, behind, handler):
        line, words, one, middle, two, end = row[:6]
        word, rest, l, nxt = words[0], words[1:], self.at(line), self.at(behind)
        if word in ("let", "set") and len(rest) == 4 or word in ("if", "while") and rest[1] == "<":
            self.reckoned(word, rest, l, nxt, handler, line)
        elif word in ("let", "set"):
            for w in self.worths:
                self.rule(self.x(rest[0], w), l, self.h(rest[1], w))
            self.rule(nxt, l)
            self.rule(self.n(rest[1]), l, self.n(rest[0]))
        elif word == "call":
            self.call(rest, l, nxt, handler)
        elif word == "get":
            for w in self.worths:
                self.rule(self.x(rest[0], w), l, ("keeps", self.u, rest[1], w))
            self.rule(nxt, l)
            self.rule(("reads", self.u, rest[1]), l, self.n(rest[0]))
        elif word == "keep":
            for w in self.worths:
                self.rule(("keeps", self.u, rest[0], w), l, self.h(rest[1], w))
            self.rule(nxt, l)
            self.rule(self.n(rest[1]), l, ("reads", self.u, rest[0]))
        elif word == "show":
            self.rule(nxt, l)
            self.rule(self.n(rest[0]), l)
        elif word == "give":
            for w in self.worths:
                self.rule(("gives", self.u, self.f, w), l, self.h(rest[0], w))
            self.rule(self.n(rest[0]), l, ("wants", self.u, self.f))
        elif word == "raise":
            for w in self.words:
                self.fault(handler, w, l, self.h(rest[0], w))
            self.fault(handler, "BAD", l, self.h(rest[0], "num"))
            self.rule(self.n(rest[0]), l)
        elif word in ("if", "while"):
            yes, no = ("yes", self.u, line), ("no", self.u, line)
            for w in self.worths:
                self.rule(yes if w == rest[2] else no, l, self.h(rest[0], w))
            self.rule(self.n(rest[0]), yes, no)
        if word in ("if", "while", "try", "do"):
            self.block(row, nxt, handler)

    def reckoned(self, word, rest, l, nxt, handler, line):
        a, b = (rest[1], rest[3]) if word in ("let", "set") else (rest[0], rest[2])
        numbers = (l, self.h(a, "num"), self.h(b, "num"))
        for w in self.words:
            for d in (a, b):
                self.fault(handler, "BAD", l, self.h(d, w))
                if word in ("let", "set"):
                    self.rule(self.n(a), l, self.h(d, w))
                    self.rule(self.n(b), l, self.h(d, w))
        if word in ("let", "set"):
            self.rule(self.x(rest[0], "num"), *numbers)
            self.rule(nxt, *numbers)
            self.rule(self.n(a), l, self.n(rest[0]))
            self.rule(self.n(b), l, self.n(rest[0]))
        else:
            self.rule(("yes", self.u, line), *numbers)
            self.rule(("no", self.u, line), *numbers)
            self.rule(self.n(a), l)
            self.rule(self.n(b), l)

    def call(self, rest, l, nxt, handler):
        v, g = rest[1].split(".") if "." in rest[1] else (self.u, rest[1])
        self.rule(("called", v, g), l)
        self.rule(nxt, l, ("back", v, g))
        self.rule(("wants", v, g), l, self.n(rest[0]))
        for w in self.worths:
            self.rule(self.x(rest[0], w), l, ("gives", v, g, w))
        for w in self.words:
            self.fault(handler, w, l, ("raises", v, g, w))
        for i, operand in enumerate(rest[2:]):
            for w in self.worths:
                self.rule(("holds", v, g, str(i), w), l, self.h(operand, w))
            self.rule(self.n(operand), l, ("needs", v, g, str(i)))

    def block(self, row, nxt, handler):
        line, words, one, middle, two, end = row[:6]
        l, word = self.at(line), words[0]
        closer = middle or end
        head = self.at(self.first(one, closer))
        inner = handler
        if word in ("if", "while"):
            self.rule(head, ("yes", self.u, line))
        else:
            self.rule(head, l)
        if word == "while":
            self.rule(nxt, ("no", self.u, line))
            self.rule(l, self.at(end))
        elif word == "if":
            self.rule(self.at(self.first(two, end) if middle else end), ("no", self.u, line))
        elif word == "try":
            inner = (row[6], self.first(two, end))
        if word != "while":
            self.rule(nxt, self.at(closer))
            self.rule(nxt, self.at(end))
        self.part(one, closer, inner)
        if middle:
            self.part(two, end, handler)


def plain_line(words, text):
    """The line of the text that is wrong, None if it is a unit."""
    try:
        Reading(words, text)
    except Wrong as wrong:
        return wrong.line
    return None


def plain_clauses(words, text):
    return tuple(sorted(Clauses(words, text).found))

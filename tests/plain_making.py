"""Answers and made units along the document, by trees."""

import re

from tests.plain import NAME, NUMERAL, Reading
from tests.plain_facts import plain_facts


class PlainAnswers:
    def __init__(self, program, budget):
        self.facts = set(plain_facts(program))
        self.words = program.words + ("NONE", "BAD")
        self.readings = {unit.name: Reading(unit.words, unit.text) for unit in program.units}
        self.rows = {}
        for name, reading in self.readings.items():
            for function, parts in reading.functions.items():
                self.gather(name, function, parts[4])
        candidates = [place for place, (_, row) in sorted(self.rows.items()) if row[1][0] == "call"
                      and ("at", *place) in self.facts and self.is_small(self.called(place[0], row[1][2]))]
        self.put = candidates[:budget]

    def gather(self, name, function, part):
        for row in part:
            self.rows[name, row[0]] = (function, row)
            self.gather(name, function, row[2] or [])
            self.gather(name, function, row[4] or [])

    def called(self, home, text):
        return tuple(text.split(".")) if "." in text else (home, text)

    def is_small(self, called):
        kind, _, _, _, part, _ = self.readings[called[0]].functions[called[1]]
        heads = " ".join(row[1][0] for row in part)
        return (kind == "open" and re.fullmatch("((let|call|show) ){0,2}give", heads) is not None
                and all("." in row[1][2] for row in part if row[1][0] == "call"))

    def worths(self, u, f, x):
        return [w for w in self.words + ("num",) if ("holds", u, f, x, w) in self.facts]

    def __call__(self, question):
        kind, *parts = question
        names = {"called": "called", "reached": "at", "needed": "needs", "wanted": "wants", "read": "reads"}
        if kind in names:
            return "yes" if (names[kind], *parts) in self.facts else "no"
        return getattr(self, f"of_{kind}")(*parts)

    def of_only(self, u, f, x):
        worths = self.worths(u, f, x)
        return worths[0] if len(worths) == 1 and worths != ["num"] else "-"

    def of_fails(self, u, line):
        f, row = self.rows.get((u, line), (None, [0, ["-"]]))
        if row[1][0] not in ("let", "set") or len(row[1]) != 5:
            return "-"
        params = self.readings[u].functions[f][3]
        for operand in row[1][2::2]:
            place = str(params.index(operand)) if operand in params else operand
            if NAME.fullmatch(operand):
                if set(self.worths(u, f, place)) - {"num"}:
                    return "yes"
            elif not NUMERAL.fullmatch(operand):
                return "yes"
        return "no"

    def of_ways(self, u, line):
        if self.rows.get((u, line), (None, [0, ["-"]]))[1][1][0] not in ("if", "while"):
            return "-"
        ways = [way for way in ("yes", "no") if (way, u, line) in self.facts]
        return ways[0] if len(ways) == 1 else "both"

    def of_caught(self, u, line):
        row = self.rows.get((u, line), (None, [0, ["-"]]))[1]
        if row[1][0] != "try":
            return "-"
        return "yes" if ("at", u, row[4][0][0] if row[4] else row[5]) in self.facts else "no"

    def of_put(self, u, line):
        if self.rows.get((u, line), (None, [0, ["-"]]))[1][1][0] != "call":
            return "-"
        return "yes" if (u, line) in self.put else "no"

    def of_body(self, v, g):
        if v not in self.readings or g not in self.readings[v].functions:
            return "-"
        _, line, _, params, part, _ = self.readings[v].functions[g]
        return " ".join([str(line), *params, *[row[1][0] for row in part]])

    def of_words(self, v, g, k):
        if v not in self.readings or g not in self.readings[v].functions:
            return "-"
        part = self.readings[v].functions[g][4]
        return " ".join(part[k][1]) if k < len(part) else "-"


class PlainMade:
    """text, origins and asked of a made unit."""

    def __init__(self, program, name, budget):
        self.answers = PlainAnswers(program, budget)
        self.u, self.log = name, {}
        reading = self.answers.readings[name]
        cells = list(reading.cells.items())
        rows = [(f"unit {name}", ((name, 1),))]
        rows += [(f"cell {cell} {word}", ((name, 2 + at),)) for at, (cell, word) in enumerate(cells)
                 if self.ask("read", name, cell) == "yes"]
        for function, (kind, line, _, params, part, end) in reading.functions.items():
            if self.ask("called", name, function) == "yes":
                self.f, self.params = function, params
                self.taken = set(" ".join(reading.lines[line - 1:end]).split(" ")) | set(reading.cells)
                rows += [(" ".join([kind, function, *params]), self.from_(line))] + self.part(part)
                rows += [("end", self.from_(end))]
        self.text = "\n".join(text for text, _ in rows)
        self.origins = tuple(origin for _, origin in rows)
        self.asked = tuple(self.log.items())

    def ask(self, *question):
        if question not in self.log:
            self.log[question] = self.answers(question)
        return self.log[question]

    def from_(self, *lines):
        return tuple((self.u, line) if isinstance(line, int) else line for line in lines)

    def fresh(self):
        at = next(at for at in range(100) if f"x{at}" not in self.taken)
        self.taken.add(f"x{at}")
        return f"x{at}"

    def part(self, part):
        found = []
        for row in part:
            if self.ask("reached", self.u, row[0]) == "yes":
                found += getattr(self, f"made_{row[1][0]}")(row, *row[1][1:])
        return found

    def name(self, name):
        return str(self.params.index(name)) if name in self.params else name

    def operand(self, text):
        if not NAME.fullmatch(text):
            return text
        only = self.ask("only", self.u, self.f, self.name(text))
        return text if only == "-" else only

    def needed(self, name):
        return self.ask("needed", self.u, self.f, self.name(name)) == "yes"

    def made_let(self, row, x, *term):
        needed = self.needed(x)
        if not needed and (len(term) == 1 or self.ask("fails", self.u, row[0]) == "no"):
            return []
        told = " ".join(self.operand(part) if at != 1 else part for at, part in enumerate(term))
        if needed:
            return [(f"{row[1][0]} {x} {told}", self.from_(row[0]))]
        return [(f"let {x if row[1][0] == 'let' else self.fresh()} {told}", self.from_(row[0]))]

    made_set = made_let

    def made_call(self, row, x, called, *operands):
        v, g = self.answers.called(self.u, called)
        if self.ask("put", self.u, row[0]) == "yes":
            return self.put_in(row, x, v, g, operands)
        told = [self.operand(operand) if self.ask("needed", v, g, str(i)) == "yes" else "NONE"
                for i, operand in enumerate(operands)]
        return [(" ".join(["call", x, called, *told]), self.from_(row[0]))]

    def put_in(self, row, x, v, g, operands):
        self.ask("body", v, g)
        _, line, _, params, part, _ = self.answers.readings[v].functions[g]
        names, found = {}, []
        for i, operand in enumerate(operands):
            if self.ask("needed", v, g, str(i)) == "yes":
                told = self.operand(operand)
                names[params[i]] = self.fresh()
                found.append((f"let {names[params[i]]} {told}", self.from_(row[0])))
        for k, statement in enumerate(part):
            if self.ask("reached", v, statement[0]) == "yes":
                words = self.ask("words", v, g, k).split(" ")
                told = self.put_statement(words, statement[0], v, g, params, names, x)
                found += [(text, self.from_((v, statement[0]), row[0])) for text in told]
        return found

    def put_statement(self, words, line, v, g, params, names, x):
        def place(name):
            return str(params.index(name)) if name in params else name

        def operand(text):
            if not NAME.fullmatch(text):
                return text
            only = self.ask("only", v, g, place(text))
            return names[text] if only == "-" else only

        def declare(name):
            names[name] = self.fresh()
            return names[name]

        if words[0] == "show":
            return [f"show {operand(words[1])}"]
        if words[0] == "give":
            return [f"let {x} {operand(words[1])}"] if self.needed(x) else []
        if words[0] == "call":
            called = words[2].split(".")
            told = [operand(each) if self.ask("needed", *called, str(i)) == "yes" else "NONE" for i, each in enumerate(words[3:])]
            return [" ".join(["call", declare(words[1]), words[2], *told])]
        if self.ask("needed", v, g, words[1]) == "no":
            if len(words) == 3 or self.ask("fails", v, line) == "no":
                return []
        told = " ".join(operand(part) if at != 1 else part for at, part in enumerate(words[2:]))
        return [f"let {declare(words[1])} {told}"]

    def made_get(self, row, x, cell):
        return [(" ".join(row[1]), self.from_(row[0]))] if self.needed(x) else []

    def made_keep(self, row, cell, operand):
        if self.ask("read", self.u, cell) == "no":
            return []
        return [(f"keep {cell} {self.operand(operand)}", self.from_(row[0]))]

    def made_show(self, row, operand):
        return [(f"{row[1][0]} {self.operand(operand)}", self.from_(row[0]))]

    made_raise = made_show

    def made_give(self, row, operand):
        told = self.operand(operand) if self.ask("wanted", self.u, self.f) == "yes" else "NONE"
        return [(f"give {told}", self.from_(row[0]))]

    def test(self, word, one, sign, other):
        one = self.operand(one)
        return f"{word} {one} {sign} {self.operand(other) if sign == '<' else other}"

    def whole(self, row, first):
        rows = [(first, self.from_(row[0]))] + self.part(row[2])
        if row[3]:
            rows += [(("catch " + row[6]) if row[1][0] == "try" else "else", self.from_(row[3]))] + self.part(row[4])
        return rows + [("end", self.from_(row[5]))]

    def in_do(self, row, part):
        rows = self.part(part)
        return [("do", self.from_(row[0])), *rows, ("end", self.from_(row[5]))] if rows else []

    def made_if(self, row, one, sign, other):
        ways = self.ask("ways", self.u, row[0]) if sign == "is" else "both"
        if ways == "both":
            return self.whole(row, self.test("if", one, sign, other))
        return self.in_do(row, row[2] if ways == "yes" else row[4] or [])

    def made_while(self, row, one, sign, other):
        if sign == "is" and self.ask("ways", self.u, row[0]) == "no":
            return []
        return self.whole(row, self.test("while", one, sign, other))

    def made_try(self, row):
        if self.ask("caught", self.u, row[0]) == "yes":
            return self.whole(row, "try")
        return self.in_do(row, row[2])

    def made_do(self, row):
        return self.in_do(row, row[2])

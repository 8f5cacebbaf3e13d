"""Runs of sources with a state that can be looked at and taken over, and what a Stepper must tell of them."""

from hungfacts.making import made
from hungfacts.questions import answer
from hungfacts.solving import facts
from tests.plain import NAME, Reading

MODULUS = 1000003


class Line:
    """A statement, or a line that closes a part: then only goes is told, where the run goes on."""

    def __init__(self, words=(), goes=0, scope=(), first=0, second=0, handler=None):
        self.words, self.goes, self.scope = words, goes, scope
        self.first, self.second, self.handler = first, second, handler


def flat(reading):
    """{line: Line} of all lines within the functions of a unit."""
    found = {}

    def head(part, closer):
        return part[0][0] if part else closer

    def gather(part, closer, scope, handler):
        for row, behind in zip(part, [row[0] for row in part[1:]] + [closer]):
            line, words, one, middle, two, end = row[:6]
            found[line] = Line(words, behind, tuple(sorted(scope)), handler=handler)
            if one is not None:
                found[line].first = head(one, middle or end)
                found[line].second = head(two, end) if middle else end if words[0] == "if" else behind
                inner = (row[6], head(two, end)) if words[0] == "try" else handler
                gather(one, middle or end, scope, inner)
                back = Line(goes=line if words[0] == "while" else behind)
                found[end] = back
                if middle:
                    found[middle] = back
                    gather(two, end, scope | ({row[6]} if words[0] == "try" else set()), handler)
            if words[0] in ("let", "call", "get"):
                scope = scope | {words[1]}

    for _, _, _, params, part, end in reading.functions.values():
        gather(part, end, frozenset(params), None)
    return found


class SourceRun:
    """A run of a program by its sources: frames are [unit, function, line, names], the innermost one last."""

    def __init__(self, program, root, values):
        self.take_program(program)
        self.frames, self.shown, self.outcome = [], [], None
        self.cells = self.first_cells()
        self.call(root, values)
        self.come()

    def take_program(self, program):
        self.program = program
        self.readings = {unit.name: Reading(unit.words, unit.text) for unit in program.units}
        self.lines = {name: flat(reading) for name, reading in self.readings.items()}

    def first_cells(self):
        return {(name, cell): word for name, reading in self.readings.items() for cell, word in reading.cells.items()}

    def move(self, program):
        """Go on by another program that has the functions of all frames with the same lines."""
        before = [self.readings[home].functions[name][1] for home, name, _, _ in self.frames]
        self.take_program(program)
        for frame, first in zip(self.frames, before):
            frame[2] += self.readings[frame[0]].functions[frame[1]][1] - first
        self.cells = {each: self.cells.get(each, word) for each, word in self.first_cells().items()}

    def places(self):
        return tuple((home, line) for home, _, line, _ in self.frames[::-1])

    def names(self):
        """For each place the ascending tuple of (name, value) in scope."""
        return tuple(tuple((name, names[name]) for name in self.lines[home][line].scope)
                     for home, _, line, names in self.frames[::-1])

    def call(self, called, values):
        _, line, _, params, part, end = self.readings[called[0]].functions[called[1]]
        self.frames.append([*called, part[0][0] if part else end, dict(zip(params, values))])

    def come(self):
        while self.outcome is None:
            home, name, line, _ = self.frames[-1]
            if line == self.readings[home].functions[name][5]:
                self.leave("NONE")
            elif self.lines[home][line].words:
                return
            else:
                self.frames[-1][2] = self.lines[home][line].goes

    def leave(self, value):
        self.frames.pop()
        if not self.frames:
            self.outcome = ("gave", value, tuple(self.shown))
            return
        home, _, line, names = self.frames[-1]
        names[self.lines[home][line].words[1]] = value
        self.frames[-1][2] = self.lines[home][line].goes

    def fault(self, word):
        places = self.places()
        while self.frames:
            home, _, line, names = self.frames[-1]
            handler = self.lines[home][line].handler
            if handler:
                names[handler[0]] = word
                self.frames[-1][2] = handler[1]
                return
            self.frames.pop()
        self.outcome = ("raised", word, places, tuple(self.shown))

    def step(self):
        """Do one statement and come to the next one."""
        home, _, line, names = self.frames[-1]
        here = self.lines[home][line]
        word, *rest = here.words

        def value(text):
            return names[text] if NAME.fullmatch(text) else text if text[0].isupper() else int(text)

        self.frames[-1][2] = here.goes
        if word in ("let", "set", "if", "while"):
            self.reckon(word, rest, [value(text) for text in (rest[1::2] if word in ("let", "set") else rest[::2])], line)
        elif word == "call":
            self.frames[-1][2] = line
            self.call(tuple(rest[1].split(".")) if "." in rest[1] else (home, rest[1]), [value(text) for text in rest[2:]])
        elif word == "get":
            names[rest[0]] = self.cells[home, rest[1]]
        elif word == "keep":
            self.cells[home, rest[0]] = value(rest[1])
        elif word == "show":
            self.shown.append(value(rest[0]))
        elif word == "give":
            self.leave(value(rest[0]))
        elif word == "raise":
            self.frames[-1][2] = line
            self.fault("BAD" if isinstance(value(rest[0]), int) else value(rest[0]))
        else:
            self.frames[-1][2] = here.first
        self.come()

    def reckon(self, word, rest, values, line):
        frame = self.frames[-1]
        here = self.lines[frame[0]][line]
        sign = rest[2] if word in ("let", "set") and len(rest) == 4 else rest[1] if word in ("if", "while") else None
        if sign not in (None, "is") and str in map(type, values):
            frame[2] = line
            self.fault("BAD")
        elif word in ("if", "while"):
            held = values[0] == rest[2] if sign == "is" else values[0] < values[1]
            frame[2] = here.first if held else here.second
        else:
            one, other = (values * 2)[:2]
            frame[3][rest[0]] = one if sign is None else {"+": one + other, "-": one - other, "*": one * other}[sign] % MODULUS


class Told:
    """What a Stepper of a program with a budget tells of the states of a SourceRun."""

    def __init__(self, program, budget):
        self.program, self.budget = program, budget
        self.origins = {name: set(made(program, name, budget=budget).origins) for name in program.names}

    def answer(self, *question):
        return answer(self.program, question, budget=self.budget)

    def has(self, places):
        """Whether a made unit has the statement at the first one of places."""
        inside = False
        for at, place in enumerate(places[::-1]):
            if at == len(places) - 1:
                origin = (place, places[1]) if inside else (place,)
                return origin in self.origins[origin[-1][0]] and (inside or self.answer("put", *place) != "yes")
            inside = not inside and self.answer("put", *place) == "yes"
        raise AssertionError

    def name(self, run, at, name):
        """What is told of a name at one of the places."""
        home, function, _, names = run.frames[::-1][at]
        params = run.readings[home].functions[function][3]
        about = (home, function, str(params.index(name)) if name in params else name)
        only = self.answer("only", *about)
        if only != "-":
            return ("is", only)
        return ("is", names[name]) if self.answer("needed", *about) == "yes" else ("gone",)

    def state(self, run):
        names = tuple(tuple((name, self.name(run, at, name)) for name, _ in named) for at, named in enumerate(run.names()))
        cells = tuple((home, cell, ("is", run.cells[home, cell]) if self.answer("read", home, cell) == "yes" else ("gone",))
                      for home, cell in sorted(run.cells))
        return (run.places(), names, cells)

    def go_on(self, run, most=10000):
        """Go on with a run to the next statement, the one ahead included, that a made unit has, or to the end."""
        while run.outcome is None and not self.has(run.places()) and most:
            run.step()
            most -= 1
        return most > 0

    def against(self, run, newer):
        """What stands against going on with a run by a newer program, for which Told tells."""
        elder, known = {fact for fact, _ in facts(self.program)}, {fact for fact, _ in facts(newer.program)}
        readings = {unit.name: Reading(unit.words, unit.text) for unit in newer.program.units}
        rows, wrong = [], []
        for (home, line), (_, function, _, _) in zip(run.places(), run.frames[::-1]):
            _, first, _, _, _, end = run.readings[home].functions[function]
            there = readings[home].functions.get(function) if home in readings else None
            if there and readings[home].lines[there[1] - 1:there[5]] == run.readings[home].lines[first - 1:end]:
                rows.append((home, function, line + there[1] - first))
            else:
                wrong.append(("lines", home, line))
        if wrong:
            return tuple(wrong)
        needed, gone = {("at", home, line) for home, _, line in rows}, set()
        for at, (home, function, _) in enumerate(rows):
            params = run.readings[home].functions[function][3]
            for name, _ in run.names()[at]:
                about = (home, function, str(params.index(name)) if name in params else name)
                told = self.name(run, at, name)
                needed |= self.held(elder, ("holds", *about), told)
                if told == ("gone",) and newer.answer("needed", *about) == "yes" and newer.answer("only", *about) == "-":
                    gone.add(("gone", home, function, name))
        lost = []
        for home, cell, told in self.state(run)[2]:
            if home in readings and cell in readings[home].cells:
                needed |= self.held(elder, ("keeps", home, cell), told)
                if told == ("gone",) and newer.answer("read", home, cell) == "yes":
                    lost.append(("gone", home, cell))
        root = [] if rows[-1][:2] in newer.program.roots else [("root", *rows[-1][:2])]
        return tuple(root + [("fact", fact) for fact in sorted(needed - known)] + sorted(gone) + lost)

    def held(self, elder, parts, told):
        if told == ("gone",):
            return {fact for fact in elder if fact[:len(parts)] == parts}
        return {(*parts, told[1] if isinstance(told[1], str) else "num")}

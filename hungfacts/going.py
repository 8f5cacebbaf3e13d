"""A run under way."""

from hungfacts.forms import NUM, UPPER, called_function


def worth_of(value):
    return value if isinstance(value, str) else NUM


class Frame:
    """A function under way, of the unit with the name home. It never changes: each step makes new ones.

    line: that of the line under way.
    names: the values of its names, also of some whose part has ended.
    outer: the frame of the function that called it, or None.
    """

    def __init__(self, home, function, line, names, outer):
        self.home = home
        self.function = function
        self.line = line
        self.names = names
        self.outer = outer

    def current(self):
        """The row of the line under way."""
        return self.function.row_at(self.line)

    def stands_for(self, operand):
        """What an operand stands for here."""
        if operand in self.names:
            return self.names[operand]
        return operand if operand[0] in UPPER else int(operand)


def where(frame):
    """The places of a run whose innermost frame this is; () for None."""
    found = []
    while frame is not None:
        found.append((frame.home, frame.line))
        frame = frame.outer
    return tuple(found)


class Going:
    """A run under way.

    functions, cells: those of the units, by (unit, name); neither of these dicts is ever changed.
    frame: that of the innermost function under way, None before the run begins and when it has ended.
    outcome: what run returns, None as long as the run has not ended and is not tired.
    seen: the facts that the run met, as keys, but for the first values of cells.
    """

    def __init__(self, functions, cells, most):
        self.functions = functions
        self.cells = cells
        self.most = most
        self.goes = 0
        self.frame = None
        self.shown = []
        self.outcome = None
        self.seen = {}

    def meet(self, fact):
        self.seen[fact] = True

    def may_go(self):
        """Count a go, and tell whether the run may have it."""
        if self.goes == self.most:
            self.outcome = ("tired",)
            return False
        self.goes += 1
        return True

    def enter(self, called, values):
        """Call a function, given as (unit, name)."""
        if not self.may_go():
            return
        self.meet(("called", *called))
        for place, value in enumerate(values):
            self.meet(("holds", *called, str(place), worth_of(value)))
        function = self.functions[called]
        self.frame = Frame(called[0], function, function.line + 1, dict(zip(function.params, values)), self.frame)

    def go_to(self, line):
        """Go on at a line of the innermost function."""
        frame = self.frame
        self.frame = Frame(frame.home, frame.function, line, frame.names, frame.outer)

    def take(self, name, value, line):
        """Give a name of the innermost function a value, and go on at a line."""
        frame = self.frame
        names = dict(frame.names)
        names[name] = value
        self.meet(("holds", frame.home, frame.function.name, frame.function.spot(name), worth_of(value)))
        self.frame = Frame(frame.home, frame.function, line, names, frame.outer)

    def keep_in(self, cell, value):
        home = self.frame.home
        self.cells = {each: self.cells[each] for each in self.cells}
        self.cells[(home, cell)] = value
        self.meet(("keeps", home, cell, worth_of(value)))

    def leave(self, value):
        """The innermost function gives a value."""
        frame = self.frame
        self.meet(("gives", frame.home, frame.function.name, worth_of(value)))
        self.meet(("back", frame.home, frame.function.name))
        self.frame = frame.outer
        if self.frame is None:
            self.outcome = ("gave", value, tuple(self.shown))
        else:
            self.take(self.frame.current().words[1], value, self.frame.line + 1)

    def fault(self, word):
        """A fault comes at the line under way."""
        places = where(self.frame)
        while self.frame is not None:
            frame = self.frame
            guard = frame.current().guard
            if guard is not None:
                self.take(guard.words[1], word, guard.line + 1)
                return
            self.meet(("raises", frame.home, frame.function.name, word))
            self.frame = frame.outer
        self.outcome = ("raised", word, places, tuple(self.shown))

    def come(self):
        """Go on to the next statement, over lines that close parts and functions."""
        while self.outcome is None:
            frame = self.frame
            self.meet(("at", frame.home, frame.line))
            if frame.line == frame.function.last:
                self.leave("NONE")
                continue
            block = frame.current().block
            if block is None:
                return
            self.go_to(block.line if block.words[0] == "while" else block.last + 1)

    def names_here(self):
        """The ascending tuple of (name, value) of the names in scope at the line under way."""
        frame = self.frame
        return tuple([(name, frame.names[name]) for name in frame.current().scope])

    def called_here(self):
        """The function, as (unit, name), that the call under way names."""
        return called_function(self.frame.home, self.frame.current().words[2])

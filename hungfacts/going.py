"""A run under way."""

from hungfacts.forms import NUM, UPPER, called_function


def worth_of(value):
    return value if isinstance(value, str) else NUM


class Frame:
    """A function under way, of the unit with the name home.

    line: that of the line under way.
    names: the values of its names, also of some whose part has ended.
    """

    def __init__(self, home, function, values):
        self.home = home
        self.function = function
        self.line = function.line + 1
        self.names = dict(zip(function.params, values))

    def current(self):
        """The row of the line under way."""
        return self.function.row_at(self.line)

    def stands_for(self, operand):
        """What an operand stands for here."""
        if operand in self.names:
            return self.names[operand]
        return operand if operand[0] in UPPER else int(operand)


class Going:
    """A run under way.

    frames: the functions under way, the innermost one last.
    cells: the value of each (unit, cell).
    outcome: what run returns, None as long as the run has not ended and is not tired.
    seen: the facts that the run met, as keys.
    """

    def __init__(self, units, most):
        self.functions = {(unit.name, each.name): each for unit in units for each in unit.functions}
        self.cells = {(unit.name, cell): word for unit in units for cell, word in unit.cells}
        self.most = most
        self.goes = 0
        self.frames = []
        self.shown = []
        self.outcome = None
        self.seen = {("keeps", home, cell, word): True for (home, cell), word in self.cells.items()}

    def meet(self, fact):
        self.seen[fact] = True

    def may_go(self):
        """Count a go, and tell whether the run may have it."""
        if self.goes == self.most:
            self.outcome = ("tired",)
            return False
        self.goes += 1
        return True

    def enter(self, called, values):
        """Call a function, given as (unit, name)."""
        if not self.may_go():
            return
        self.meet(("called", *called))
        for place, value in enumerate(values):
            self.meet(("holds", *called, str(place), worth_of(value)))
        self.frames.append(Frame(called[0], self.functions[called], values))

    def take(self, name, value):
        """Give a name of the innermost function a value."""
        frame = self.frames[-1]
        frame.names[name] = value
        spot = frame.function.spot(name)
        self.meet(("holds", frame.home, frame.function.name, spot, worth_of(value)))

    def keep_in(self, cell, value):
        home = self.frames[-1].home
        self.cells[(home, cell)] = value
        self.meet(("keeps", home, cell, worth_of(value)))

    def leave(self, value):
        """The innermost function gives a value."""
        frame = self.frames.pop()
        self.meet(("gives", frame.home, frame.function.name, worth_of(value)))
        self.meet(("back", frame.home, frame.function.name))
        if not self.frames:
            self.outcome = ("gave", value, tuple(self.shown))
            return
        caller = self.frames[-1]
        self.take(caller.current().words[1], value)
        caller.line += 1

    def fault(self, word):
        """A fault comes at the line under way."""
        places = self.where()
        while self.frames:
            frame = self.frames[-1]
            guard = frame.current().guard
            if guard is not None:
                self.take(guard.words[1], word)
                frame.line = guard.line + 1
                return
            self.meet(("raises", frame.home, frame.function.name, word))
            self.frames.pop()
        self.outcome = ("raised", word, places, tuple(self.shown))

    def come(self):
        """Go on to the next statement, over lines that close parts and functions."""
        while self.outcome is None:
            frame = self.frames[-1]
            self.meet(("at", frame.home, frame.line))
            if frame.line == frame.function.last:
                self.leave("NONE")
                continue
            block = frame.current().block
            if block is None:
                return
            frame.line = block.line if block.words[0] == "while" else block.last + 1

    def where(self):
        return tuple([(frame.home, frame.line) for frame in reversed(self.frames)])

    def names_here(self):
        """The ascending tuple of (name, value) of the names in scope at the line under way."""
        frame = self.frames[-1]
        return tuple([(name, frame.names[name]) for name in frame.current().scope])

    def called_here(self):
        """The function, as (unit, name), that the call under way names."""
        frame = self.frames[-1]
        return called_function(frame.home, frame.current().words[2])

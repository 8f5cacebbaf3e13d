"""The made units of a program, ready to run."""

from hungfacts.answers import answers_of
from hungfacts.making import draft_of
from hungfacts.memory import recalled
from hungfacts.reading import read_made


def order_of(origin):
    """Where a made line stands among those of its function: the line of the unit, then that of a body put in."""
    return (origin[-1][1], origin[0][1] if len(origin) == 2 else 0)


class Works:
    """The made units of a program.

    functions, cells: theirs, by (unit, name), as a Going takes them. origins: for each (unit, line) of
    theirs its origin. renamed: for (unit, line) of each call whose function was put in, the names that
    stand in the place of those of this function.
    """

    def __init__(self, program, budget):
        self.program = program
        self.answers = answers_of(program, budget)
        self.functions = {}
        self.cells = {}
        self.origins = {}
        self.renamed = {}
        for name in program.names:
            self._take(name, draft_of(program, name, budget))

    def _take(self, home, draft):
        read = read_made(self.program.words, draft.text)
        for function in read.functions.values():
            self.functions[(home, function.name)] = function
        for cell, word in read.cells.items():
            self.cells[(home, cell)] = word
        for at, origin in enumerate(draft.origins):
            self.origins[(home, at + 1)] = origin
        for line, names in draft.renamed.items():
            self.renamed[(home, line)] = names

    def is_silent(self, home, line):
        """Whether a made line gives a place of a function that is put in its value."""
        origin = self.origins[(home, line)]
        return len(origin) == 1 and origin[0] in self.renamed

    def line_from(self, home, function, spot):
        """The first line of a made function, its end at the latest, that is not ahead of this spot.

        spot: (line of the unit, line of the body that is put in there, or 0).
        """
        for line in range(function.line + 1, function.last):
            if order_of(self.origins[(home, line)]) >= spot:
                return line
        return function.last

    def sources(self, places):
        """Places in made units told in terms of the sources."""
        return tuple([pair for place in places for pair in self.origins[place]])

    def told(self, outcome):
        """What came of a run of the made units, told in terms of the sources."""
        if outcome is None or outcome[0] != "raised":
            return outcome
        return ("raised", outcome[1], self.sources(outcome[2]), outcome[3])


def work_out_works(program, budget):
    return Works(program, budget)


def works_of(program, budget):
    """The Works of a program."""
    return recalled(program, work_out_works, budget)

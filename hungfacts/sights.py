"""What a run of made units tells of the sources at one of its places."""

from hungfacts.runs import cells_of
from hungfacts.sites import worths_of

GONE = ("gone",)


class Sight:
    """A place of a run in the sources.

    function, row: what stands there. held: the values of the names of the made function under way.
    renamed: what stands in that one in the place of the names here, None where they stand themselves.
    """

    def __init__(self, answers, place, held, renamed):
        self.answers = answers
        self.home, self.line = place
        self.function, self.row = answers.lines[place]
        self.held = held
        self.renamed = renamed

    def about(self, name):
        """How facts and questions speak of a name here."""
        return (self.home, self.function.name, self.function.spot(name))

    def told(self, name):
        """What is told of a name in scope."""
        only = self.answers.tell(("only", *self.about(name)))
        if only != "-":
            return ("is", only)
        if not self.answers.is_so(("needed", *self.about(name))):
            return GONE
        return ("is", self.held[name if self.renamed is None else self.renamed[name]])

    def told_names(self):
        return tuple([(name, self.told(name)) for name in self.row.scope])


def sights_of(works, frame):
    """The Sights of one frame of a run of made units: that of a body that was put in, then its own one."""
    origin = works.origins[(frame.home, frame.line)]
    own = Sight(works.answers, origin[-1], frame.names, None)
    if len(origin) == 1:
        return [own]
    return [Sight(works.answers, origin[0], frame.names, works.renamed[origin[1]]), own]


def sights(works, frame):
    """The Sights of a run of made units whose innermost frame this is, the innermost one first."""
    found = []
    while frame is not None:
        found += sights_of(works, frame)
        frame = frame.outer
    return found


def told_cells(works, cells):
    """The ascending tuple of (unit, cell, told) of all cells, these being the values of those that are made."""
    found = []
    for home, cell in sorted(cells_of(works.program)):
        read = works.answers.is_so(("read", home, cell))
        found.append((home, cell, ("is", cells[(home, cell)]) if read else GONE))
    return tuple(found)


def worths_known(answers, kind, about):
    """The worths of which a fact of this kind tells."""
    return [worth for worth in worths_of(answers.words) if (kind, *about, worth) in answers.known]

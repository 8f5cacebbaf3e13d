"""Where a run of made units stands, moment by moment."""

from hungfacts.doing import do_next
from hungfacts.going import Going, where


class Moment:
    """A run that stands ahead of a statement, or at its end. It never changes.

    works: the made units by which it goes. frame: the innermost one, None at the end. cells: the values
    of the made ones. many: how many values it has shown. outcome: what came of it, None ahead of the end.
    done: how many statements it has done. before: the moment ahead of the last step, None at the beginning.
    """

    def __init__(self, works, going, done, before):
        self.works = works
        self.frame = going.frame
        self.cells = going.cells
        self.many = len(going.shown)
        self.outcome = works.told(going.outcome)
        self.done = done
        self.before = before

    def first_place(self):
        """The first one of its places; there is none at the end."""
        return self.works.origins[(self.frame.home, self.frame.line)][0]

    def all_places(self):
        """All places in terms of the sources, None at the end."""
        return None if self.outcome is not None else self.works.sources(where(self.frame))


def going_on(works, frame, cells, shown):
    """A run of made units that stands at this frame; what it shows from now on stands behind what is shown."""
    going = Going(works.functions, cells, None)
    going.frame = frame
    going.shown = shown
    return going


def settled(works, going, done, before):
    """The moment at the first statement, from where a run stands, at which it stops."""
    going.come()
    while going.outcome is None and works.is_silent(going.frame.home, going.frame.line):
        do_next(going)
    return Moment(works, going, done, before)


def first_moment(works, root, values, shown):
    going = going_on(works, None, works.cells, shown)
    going.enter(root, values)
    return settled(works, going, 0, None)


def next_moment(moment, shown):
    """The moment behind one more step."""
    going = going_on(moment.works, moment.frame, moment.cells, shown)
    do_next(going)
    return settled(moment.works, going, moment.done + 1, moment)

"""A program that is edited, with its made units and with runs that go along."""

from hungfacts.answers import check_budget
from hungfacts.changes import Change
from hungfacts.errors import BadDrops, BadTexts, BadUnits, NoRun, NothingToRedo, NothingToUndo
from hungfacts.forms import is_integer
from hungfacts.maderuns import run_made
from hungfacts.making import made
from hungfacts.programs import Program
from hungfacts.solving import facts
from hungfacts.stepping import Stepper
from hungfacts.units import Unit


def are_drops(value, units, names):
    """Whether any value is a tuple of different names of these units, none of which is among names."""
    if not isinstance(value, tuple) or not all([isinstance(name, str) for name in value]):
        return False
    there = [unit.name for unit in units]
    return len(set(value)) == len(value) and all([name in there and name not in names for name in value])


def edited(program, texts, drops, roots):
    """The program that an edit leads to; raises what the edit raises."""
    if not isinstance(texts, tuple):
        raise BadTexts(texts)
    put = [Unit(program.words, text) for text in texts]
    names = [unit.name for unit in put]
    if len(set(names)) < len(names):
        raise BadUnits(texts)
    if not are_drops(drops, program.units, names):
        raise BadDrops(drops)
    # A unit that is put in as it was stays the same one, and what is known of it is kept.
    put = [program.unit(unit.name) if unit in program.units else unit for unit in put]
    left = [unit for unit in program.units if unit.name not in names and unit.name not in drops]
    return Program(tuple(left + put), program.roots if roots is None else roots)


def counts_behind(change, counts):
    """How many times each unit of the newer program was made, counts telling of the elder one."""
    found = {name: counts[name] for name in change.kept}
    for name, reason in change.anew:
        found[name] = 1 if reason == ("new",) else counts[name] + 1
    return found


class Before:
    """What a house was ahead of a trial; outer is what it was ahead of the same trial, begun once more."""

    def __init__(self, house, outer):
        self.outer = outer
        self.program = house.program
        self.edits = house.edits
        self.past = house.past
        self.future = house.future
        self.counts = house.counts
        self.runs = [stepper.twin() for stepper in house.runs]


class Trial:
    """Behind the block of a trial the house is as it was, unless the trial was kept and no error left it."""

    def __init__(self, house):
        self.house = house
        # None until it is kept, not False: at the end of a block an attribute may be asked by `is None` alone.
        self.kept = None
        self.before = None

    def keep(self):
        """Let what is done in the block stand."""
        self.kept = True

    def __enter__(self):
        self.before = Before(self.house, self.before)
        return self

    def __exit__(self, kind, value, trace):
        if kind is not None or self.kept is None:
            self.house.program = self.before.program
            self.house.edits = self.before.edits
            self.house.past = self.before.past
            self.house.future = self.before.future
            self.house.counts = self.before.counts
            self.house.runs = self.before.runs
        self.before = self.before.outer
        return False


class House:
    """A program under edits.

    Beyond what the interface names: past and future, (program, counts) of what can be undone and redone,
    the next one last; counts, how many times each made unit was made; runs, the Stepper of each.
    """

    def __init__(self, program, *, budget=0):
        check_budget(budget)
        self.program = program
        self.budget = budget
        self.edits = 0
        self.past = ()
        self.future = ()
        self.counts = {name: 1 for name in program.names}
        self.runs = []

    def __eq__(self, other):
        return isinstance(other, House) and self.program == other.program and self.budget == other.budget

    def made(self, name):
        """The Made of a unit of the present program."""
        return made(self.program, name, budget=self.budget)

    def facts(self):
        """The ascending tuple of (fact, rank) of the present program."""
        return facts(self.program)

    def run(self, root, values, most):
        """What comes of a run of the present made units."""
        return run_made(self.program, root, values, most, budget=self.budget)

    def times(self, name):
        """How many times the present made unit of this name has been made."""
        return self.counts[self.program.unit(name).name]

    def _come_to(self, program, counts, past, future):
        """Take over another program, and take along the runs that can go on with it."""
        self.program = program
        self.counts = counts
        self.past = past
        self.future = future
        self.edits = len(past)
        for stepper in self.runs:
            if stepper.outcome is None and stepper.program != program and not stepper.against(program):
                stepper.move(program)

    def edit(self, texts, *, drops=(), roots=None):
        """Put units in, drop units, perhaps take other roots; return the Change."""
        program = edited(self.program, texts, drops, roots)
        change = Change(self.program, program, budget=self.budget)
        past = self.past + ((self.program, self.counts),)
        self._come_to(program, counts_behind(change, self.counts), past, ())
        return change

    def undo(self):
        """Take the last edit back; return the Change that this is."""
        if not self.past:
            raise NothingToUndo()
        program, counts = self.past[-1]
        change = Change(self.program, program, budget=self.budget)
        self._come_to(program, counts, self.past[:-1], self.future + ((self.program, self.counts),))
        return change

    def redo(self):
        """Do the edit again that was taken back last; return the Change that this is."""
        if not self.future:
            raise NothingToRedo()
        program, counts = self.future[-1]
        change = Change(self.program, program, budget=self.budget)
        self._come_to(program, counts, self.past + ((self.program, self.counts),), self.future[:-1])
        return change

    def trial(self):
        """A Trial, for a with statement."""
        return Trial(self)

    def tried(self, look, *, keep=False):
        """What look returns for this house, called in a trial, which is kept if keep is True."""
        with self.trial() as trial:
            if keep is True:
                trial.keep()
            return look(self)

    def start(self, root, values):
        """Begin a run, and return its number."""
        self.runs.append(Stepper(self.program, root, values, budget=self.budget))
        return len(self.runs) - 1

    def stepper(self, number):
        """The Stepper of the run of this number."""
        if not is_integer(number) or not 0 <= number < len(self.runs):
            raise NoRun(number)
        return self.runs[number]

    def behind(self):
        """(number, what stands against taking it along) of the runs that do not go by the present program."""
        found = []
        for number, stepper in enumerate(self.runs):
            if stepper.outcome is None and stepper.program != self.program:
                found.append((number, stepper.against(self.program)))
        return tuple(found)

    def copy(self):
        """An equal house of its own."""
        return House(self.program, budget=self.budget)

"""Going through a run of made units step by step, in terms of the sources."""

from hungfacts.answers import answers_of, check_budget
from hungfacts.errors import Barred, Ended, Endless, NoLine, NoName, OtherWords
from hungfacts.moments import first_moment, next_moment
from hungfacts.moving import bars, moved_moment
from hungfacts.runs import check_root
from hungfacts.sights import sights, sights_of, told_cells
from hungfacts.works import works_of

MOST_STEPS = 2000


class Stepper:
    """A run of made units that stands ahead of a statement, or at its end.

    Beyond what the interface names: budget; beginning, the first program, the root and the values;
    moment, where it stands; values_shown, the list of which shown is a tuple.
    """

    def __init__(self, program, root, values, *, budget=0):
        check_root(program, root, values)
        check_budget(budget)
        self.budget = budget
        self.beginning = (program, root, values)
        self.values_shown = []
        self._stand(first_moment(works_of(program, budget), root, values, self.values_shown))

    def _stand(self, moment):
        """Stand at a moment, which is the next one or an earlier one."""
        del self.values_shown[moment.many:]
        self.moment = moment
        self.program = moment.works.program
        self.places = moment.all_places()
        self.shown = tuple(self.values_shown)
        self.outcome = moment.outcome
        self.done = moment.done

    def _check_under_way(self):
        if self.outcome is not None:
            raise Ended()

    def step(self):
        """Do the statement ahead, and return the new places."""
        self._check_under_way()
        self._stand(next_moment(self.moment, self.values_shown))
        return self.places

    def back(self):
        """Take the last step back, or the last move."""
        if self.moment.before is None:
            raise Ended()
        self._stand(self.moment.before)

    def until(self, unit, line):
        """Step, once at least, until the run stands at a line or at its end, and tell whether it is there."""
        self._check_under_way()
        if not self.moment.works.answers.is_statement(unit, line):
            raise NoLine((unit, line))
        moment = self.moment
        for _ in range(MOST_STEPS):
            moment = next_moment(moment, self.values_shown)
            if moment.outcome is not None or moment.first_place() == (unit, line):
                self._stand(moment)
                return moment.outcome is None
        del self.values_shown[self.moment.many:]
        raise Endless()

    def told(self, name):
        """What the made program has of a name in scope at the first place."""
        self._check_under_way()
        sight = sights_of(self.moment.works, self.moment.frame)[0]
        if name not in sight.row.scope:
            raise NoName(name)
        return sight.told(name)

    def state(self):
        """(places, names, cells): what the made program has of all names in scope, and of all cells."""
        self._check_under_way()
        found = sights(self.moment.works, self.moment.frame)
        names = tuple([sight.told_names() for sight in found])
        return (self.places, names, told_cells(self.moment.works, self.moment.cells))

    def against(self, program):
        """All that stands against going on with a program."""
        if program.words != self.program.words:
            raise OtherWords()
        self._check_under_way()
        return bars(self.moment, answers_of(program, self.budget))

    def move(self, program):
        """Go on with the made units of a program."""
        found = self.against(program)
        if found:
            raise Barred(found)
        self._stand(moved_moment(self.moment, works_of(program, self.budget), self.values_shown))

    def twin(self):
        """Another Stepper that stands where this one does, with the same steps to take back."""
        program, root, values = self.beginning
        other = Stepper(program, root, values, budget=self.budget)
        other.values_shown = list(self.values_shown)
        other._stand(self.moment)
        return other

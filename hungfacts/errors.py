"""The errors of the package. Each keeps what it was created with."""


class HungError(ValueError):
    """What all errors of the package derive from."""


class BadWords(HungError):
    """What should be the words of a program is not."""

    def __init__(self, value):
        self.value = value


class BadUnit(HungError):
    """A text is no unit, by this line of it (0: it is no string)."""

    def __init__(self, line):
        self.line = line


class BadUnits(HungError):
    """What should be the units of a program is not."""

    def __init__(self, value):
        self.value = value


class BadRoots(HungError):
    """What should be the roots of a program is not."""

    def __init__(self, value):
        self.value = value


class NoFunction(HungError):
    """At this (unit, line) something is called that is not there."""

    def __init__(self, call):
        self.call = call


class NoUnit(HungError):
    """A program has no unit of this name."""

    def __init__(self, value):
        self.value = value


class NoRoot(HungError):
    """A program has no such root."""

    def __init__(self, value):
        self.value = value


class BadValues(HungError):
    """What should be the values for a root is not."""

    def __init__(self, value):
        self.value = value


class BadCount(HungError):
    """What should be a number of goes is not."""

    def __init__(self, value):
        self.value = value


class BadOrder(HungError):
    """What should be an order of the three sorts is not."""

    def __init__(self, value):
        self.value = value


class BadInputs(HungError):
    """What should be a possible set of inputs is not."""

    def __init__(self, value):
        self.value = value


class NotEditions(HungError):
    """Two units are no editions of one another."""


class NoRoom(HungError):
    """A unit of this name leaves no room for the one to be written."""

    def __init__(self, title):
        self.title = title


class BadBudget(HungError):
    """What should be a budget is not."""

    def __init__(self, value):
        self.value = value


class BadQuestion(HungError):
    """What should be a question is not."""

    def __init__(self, value):
        self.value = value


class Ended(HungError):
    """A run has no step left in this direction."""


class Endless(HungError):
    """A run does not come to the line that is waited for."""


class NoLine(HungError):
    """At this (unit, line) stands no statement."""

    def __init__(self, value):
        self.value = value


class NoName(HungError):
    """Nothing of this name is in scope."""

    def __init__(self, value):
        self.value = value


class Barred(HungError):
    """These things stand against going on with a program."""

    def __init__(self, bars):
        self.bars = bars


class NoRun(HungError):
    """A house has no run of this number."""

    def __init__(self, value):
        self.value = value


class BadTexts(HungError):
    """What should be the texts of an edit is not."""

    def __init__(self, value):
        self.value = value


class BadDrops(HungError):
    """What should be the units that an edit drops is not."""

    def __init__(self, value):
        self.value = value


class NothingToUndo(HungError):
    """No edit is left to take back."""


class NothingToRedo(HungError):
    """No edit is left to do again."""


class OtherWords(HungError):
    """Two programs have unlike words."""


class NotAnew(HungError):
    """No unit of this name was made anew by an answer."""

    def __init__(self, value):
        self.value = value


class BadFact(HungError):
    """What should be a fact is not."""

    def __init__(self, value):
        self.value = value


class BadText(HungError):
    """A text has not its form, by this line of it (0: it is no string)."""

    def __init__(self, line):
        self.line = line


class BadStored(HungError):
    """A stored house does not hold what its program has."""

    def __init__(self, value):
        self.value = value


class BadLine(HungError):
    """What should be a line of a desk is not."""

    def __init__(self, value):
        self.value = value

"""Programs: units that call one another, and their roots."""

from hungfacts.errors import BadRoots, BadUnits, NoFunction, NoUnit
from hungfacts.forms import called_function
from hungfacts.units import Unit


class Program:
    """Units with the same words, and the open functions with which runs may begin.

    Beyond what the interface names: memory, what was worked out about it.
    """

    def __init__(self, units, roots):
        if not are_units(units):
            raise BadUnits(units)
        self.words = units[0].words
        self.units = tuple(sorted(units, key=lambda unit: unit.name))
        self.names = tuple([unit.name for unit in self.units])
        if not are_roots(roots, self.units):
            raise BadRoots(roots)
        self.roots = roots
        call = call_of_nothing(self.units)
        if call is not None:
            raise NoFunction(call)
        self.memory = {}

    def unit(self, name):
        """The unit of this name; raises NoUnit."""
        for unit in self.units:
            if unit.name == name:
                return unit
        raise NoUnit(name)

    def __eq__(self, other):
        return isinstance(other, Program) and self.units == other.units and self.roots == other.roots


def are_units(value):
    """Whether any value is a tuple of units with the same words and different names."""
    if not isinstance(value, tuple) or not value:
        return False
    if not all([isinstance(unit, Unit) for unit in value]):
        return False
    if not all([unit.words == value[0].words for unit in value]):
        return False
    return len(set([unit.name for unit in value])) == len(value)


def are_roots(value, units):
    """Whether any value is an ascending tuple of open functions of these units."""
    if not isinstance(value, tuple) or not value:
        return False
    if not all([is_pair(root) for root in value]):
        return False
    shared = [(unit.name, name) for unit in units for name, _ in unit.opens]
    return value == tuple(sorted(set(value))) and all([root in shared for root in value])


def is_pair(value):
    """Whether any value is a tuple of two strings."""
    return isinstance(value, tuple) and len(value) == 2 and all([isinstance(part, str) for part in value])


def call_of_nothing(units):
    """The first (unit, line) of a call of another unit's function that is not there; None: none is."""
    shared = {(unit.name, name): many for unit in units for name, many in unit.opens}
    for unit in units:
        for function in unit.functions:
            for row in function.rows:
                if row.words[0] == "call" and is_elsewhere_wrong(unit.name, row.words, shared):
                    return (unit.name, row.line)
    return None


def is_elsewhere_wrong(home, words, shared):
    called = called_function(home, words[2])
    return called[0] != home and shared.get(called) != len(words) - 3

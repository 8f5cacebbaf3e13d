"""Runs of programs."""

from hungfacts.doing import do_next
from hungfacts.errors import BadCount, BadValues, NoRoot
from hungfacts.forms import FIXED, is_integer
from hungfacts.going import Going, where
from hungfacts.memory import recalled

MOST_GOES = 2000


def check_root(program, root, values):
    """Raise what a wrong root or wrong values for it call for."""
    if root not in program.roots:
        raise NoRoot(root)
    if not are_values(program, root, values):
        raise BadValues(values)


def are_values(program, root, value):
    """Whether any value is a tuple of values for the parameters of this root."""
    if not isinstance(value, tuple) or len(value) != dict(program.unit(root[0]).opens)[root[1]]:
        return False
    words = program.words + FIXED
    return all([is_integer(each) or isinstance(each, str) and each in words for each in value])


def is_count(value):
    return is_integer(value) and 1 <= value <= MOST_GOES


def check_run(program, root, values, most):
    """Raise what run raises."""
    check_root(program, root, values)
    if not is_count(most):
        raise BadCount(most)


def work_out_functions(program):
    return {(unit.name, each.name): each for unit in program.units for each in unit.functions}


def work_out_cells(program):
    return {(unit.name, cell): word for unit in program.units for cell, word in unit.cells}


def cells_of(program):
    """The first value of each (unit, cell) of a program."""
    return recalled(program, work_out_cells)


def begun(program, root, values, most):
    """A run ahead of its first statement; raises what run raises."""
    check_run(program, root, values, most)
    going = Going(recalled(program, work_out_functions), cells_of(program), most)
    going.enter(root, values)
    going.come()
    return going


def ended(going):
    """A run behind its last statement."""
    while going.outcome is None:
        do_next(going)
    return going


def run(program, root, values, most):
    """What comes of a run: ("gave", value, shown), ("raised", word, places, shown) or ("tired",)."""
    return ended(begun(program, root, values, most)).outcome


def steps(program, root, values, most):
    """Yield (places, names) for each statement to which the run comes."""
    going = begun(program, root, values, most)
    while going.outcome is None:
        yield (where(going.frame), going.names_here())
        do_next(going)


def met(program, root, values, most):
    """The ascending tuple of the facts that the run meets."""
    going = begun(program, root, values, most)
    first = [("keeps", home, cell, word) for (home, cell), word in cells_of(program).items()]
    ended(going)
    return tuple(sorted(set(first + list(going.seen))))

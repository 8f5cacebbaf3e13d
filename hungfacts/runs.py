"""Runs of programs."""

from hungfacts.doing import do_next
from hungfacts.errors import BadCount, BadValues, NoRoot
from hungfacts.forms import FIXED, is_integer
from hungfacts.going import Going

MOST_GOES = 2000


def check_root(program, root, values):
    """Raise what a wrong root or wrong values for it call for."""
    if root not in program.roots:
        raise NoRoot(root)
    if not are_values(program, root, values):
        raise BadValues(values)


def are_values(program, root, value):
    """Whether any value is a tuple of values for the parameters of this root."""
    if not isinstance(value, tuple) or len(value) != dict(program.unit(root[0]).opens)[root[1]]:
        return False
    words = program.words + FIXED
    return all([is_integer(each) or isinstance(each, str) and each in words for each in value])


def is_count(value):
    return is_integer(value) and 1 <= value <= MOST_GOES


def begun(program, root, values, most):
    """A run ahead of its first statement; raises what run raises."""
    check_root(program, root, values)
    if not is_count(most):
        raise BadCount(most)
    going = Going(program.units, most)
    going.enter(root, values)
    going.come()
    return going


def ended(program, root, values, most):
    """A run behind its last statement; raises what run raises."""
    going = begun(program, root, values, most)
    while going.outcome is None:
        do_next(going)
    return going


def run(program, root, values, most):
    """What comes of a run: ("gave", value, shown), ("raised", word, places, shown) or ("tired",)."""
    return ended(program, root, values, most).outcome


def steps(program, root, values, most):
    """Yield (places, names) for each statement to which the run comes."""
    going = begun(program, root, values, most)
    while going.outcome is None:
        yield (going.where(), going.names_here())
        do_next(going)


def met(program, root, values, most):
    """The ascending tuple of the facts that the run meets."""
    return tuple(sorted(ended(program, root, values, most).seen))

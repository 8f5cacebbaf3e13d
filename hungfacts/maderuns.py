"""Runs of made units."""

from hungfacts.answers import check_budget
from hungfacts.going import Going
from hungfacts.runs import check_run, ended
from hungfacts.works import works_of


def run_made(program, root, values, most, *, budget=0):
    """What run returns for the made units of a program, with places in terms of the sources."""
    check_run(program, root, values, most)
    check_budget(budget)
    works = works_of(program, budget)
    going = Going(works.functions, works.cells, most)
    going.enter(root, values)
    going.come()
    return works.told(ended(going).outcome)

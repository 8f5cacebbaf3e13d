"""Summaries: what follows from a unit if other units do certain things."""

from hungfacts.cases import Cases
from hungfacts.clauses import of_root, unit_clauses
from hungfacts.conditions import included
from hungfacts.deriving import Net, least
from hungfacts.errors import BadInputs
from hungfacts.forms import FIXED
from hungfacts.groups import groups_of
from hungfacts.memory import recalled
from hungfacts.programs import Program
from hungfacts.sites import worths_of
from hungfacts.solving import is_ascending


def work_out_inputs(unit):
    return tuple(sorted([fact for group in groups_of(unit) for fact in group.inputs]))


def inputs(unit):
    """The ascending tuple of the inputs of a unit."""
    return recalled(unit, work_out_inputs)


def work_out_outputs(unit):
    found = []
    for name, many in unit.opens:
        called = (unit.name, name)
        found.append(("back", *called))
        found += [("gives", *called, worth) for worth in worths_of(unit.words)]
        found += [("raises", *called, word) for word in unit.words + FIXED]
        found += [("needs", *called, str(place)) for place in range(many)]
    for home, name, many in unit.asks:
        found += [("called", home, name), ("wants", home, name)]
        for place in range(many):
            found += [("holds", home, name, str(place), worth) for worth in worths_of(unit.words)]
    return tuple(sorted(found))


def outputs(unit):
    """The ascending tuple of the outputs of a unit."""
    return recalled(unit, work_out_outputs)


def is_possible(unit, held):
    """Whether a set of inputs, the keys of a dict, is possible."""
    for name, many in unit.opens:
        spots = [("holds", unit.name, name, str(place)) for place in range(many)]
        of_places = [any([fact[:4] == spot for fact in held]) for spot in spots]
        if ("called", unit.name, name) in held:
            if not all(of_places):
                return False
        elif ("wants", unit.name, name) in held or any(of_places):
            return False
    for home, name, _ in unit.asks:
        given = [fact for fact in held if fact[:3] == ("gives", home, name)]
        if (("back", home, name) in held) != bool(given):
            return False
    return True


def work_out_input_keys(unit):
    return {fact: True for fact in inputs(unit)}


def work_out_net(unit):
    return Net(unit_clauses(unit))


def follows(unit, some):
    """The ascending tuple of the outputs that follow from a possible set of inputs."""
    every = recalled(unit, work_out_input_keys)
    if not is_ascending(some, every) or not is_possible(unit, {fact: True for fact in some}):
        raise BadInputs(some)
    known = recalled(unit, work_out_net).least(some)
    return tuple([fact for fact in outputs(unit) if fact in known])


def work_out_summary(unit):
    cases = Cases(unit)
    found = []
    for output in outputs(unit):
        of_output = tuple(sorted([tuple(sorted(case)) for case in cases.of(output)]))
        if of_output:
            found.append((output, of_output))
    return tuple(found)


def summary(unit):
    """The ascending tuple of (output, cases): all least cases that lead to each output."""
    return recalled(unit, work_out_summary)


def joined(units, roots):
    """The ascending tuple of the inputs and outputs of units that hold by their summaries alone."""
    program = Program(units, roots)
    worths = worths_of(program.words)
    found = [clause for root in program.roots for clause in of_root(program, root)]
    for unit in program.units:
        for output, cases in summary(unit):
            found += [(output, case) for case in cases]
        for fact in inputs(unit):
            others = [each for each in included(fact, worths) if each[0] in ("unlike", "other")]
            found += [(condition, (fact,)) for condition in others]
    return tuple(sorted([fact for fact in least(found) if fact[0] not in ("unlike", "other")]))

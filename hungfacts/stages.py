"""Solving one sort of facts behind the other, and the rings that this leaves standing."""

from hungfacts.clauses import clauses
from hungfacts.deriving import least
from hungfacts.errors import BadOrder
from hungfacts.memory import recalled
from hungfacts.solving import heads, is_ascending, known_facts

FLOW = ("at", "yes", "no", "called", "back", "raises")
WORTH = ("holds", "keeps", "gives")
SORTS = ("flow", "worth", "need")


def sort_of(fact):
    if fact[0] in FLOW:
        return "flow"
    return "worth" if fact[0] in WORTH else "need"


def is_order(value):
    """Whether any value is a tuple with the three sorts."""
    if not isinstance(value, tuple) or not all([isinstance(part, str) for part in value]):
        return False
    return sorted(value) == sorted(SORTS)


def parted(found):
    """For each sort its clauses, as (fact, premises of this sort, other premises)."""
    parts = {sort: [] for sort in SORTS}
    for fact, premises in found:
        sort = sort_of(fact)
        own = [premise for premise in premises if sort_of(premise) == sort]
        others = [premise for premise in premises if sort_of(premise) != sort]
        parts[sort].append((fact, own, others))
    return parts


def solved(part, held):
    """The facts of a sort, as keys, if those of the other sorts hold that held has."""
    standing = [(fact, own) for fact, own, others in part if all([premise in held for premise in others])]
    return least(standing)


def work_out_parts(program):
    return parted(clauses(program))


def work_out_staged(program, order):
    parts = recalled(program, work_out_parts)
    held = heads(program)
    many = 0
    changed = True
    while changed:
        many += 1
        before = len(held)
        for sort in order:
            kept = solved(parts[sort], held)
            held = {fact: True for fact in held if sort_of(fact) != sort or fact in kept}
        # What is taken as holding never grows again, so its number tells of each change.
        changed = len(held) < before
    return many, tuple(sorted(held))


def staged(program, order):
    """(how many times the order was gone through, the ascending tuple of what holds then)."""
    if not is_order(order):
        raise BadOrder(order)
    return recalled(program, work_out_staged, order)


def ring(program, order):
    """The ascending tuple of what staged takes as holding, though it is no fact of the program."""
    _, held = staged(program, order)
    known = known_facts(program)
    return tuple([fact for fact in held if fact not in known])


def shows_ring(program, value):
    """Whether any value is a ring: facts of clauses that hold one another up, none a fact of the program."""
    known = known_facts(program)
    if not is_ascending(value, heads(program)) or any([fact in known for fact in value]):
        return False
    inside = {fact: True for fact in value}
    held_up = {}
    for head, premises in clauses(program):
        if head in inside and all([each in known or each in inside for each in premises]):
            held_up[head] = True
    return len(held_up) == len(inside)

"""The facts of programs, and what shows that something is one of them or is none."""

from hungfacts.clauses import clauses
from hungfacts.deriving import least
from hungfacts.forms import is_flat


def facts(program):
    """The ascending tuple of (fact, rank) of all facts of a program."""
    known = least(clauses(program))
    return tuple(sorted([(fact, turn) for fact, (turn, _) in known.items()]))


def is_known(fact, known):
    """Whether any value is one of these facts."""
    return is_flat(fact) and fact in known


def way(program, fact):
    """A way to a fact, or None if it is no fact of the program."""
    found = clauses(program)
    known = least(found)
    if not is_known(fact, known):
        return None
    needed = {fact: True}
    waiting = [fact]
    while waiting:
        _, at = known[waiting.pop()]
        for premise in found[at][1]:
            if premise not in needed:
                needed[premise] = True
                waiting.append(premise)
    # Premises came in earlier rounds, so the fact itself is the only one of its round.
    ranked = sorted([known[each] for each in needed])
    return tuple([found[at] for _, at in ranked])


def closed(program, fact):
    """A closed set without a fact, or None if it is a fact of the program."""
    known = least(clauses(program))
    if is_known(fact, known):
        return None
    return tuple(sorted(known))


def is_clause(value, found):
    """Whether any value is one of these clauses, which are the keys of a dict."""
    if not isinstance(value, tuple) or len(value) != 2 or not isinstance(value[1], tuple):
        return False
    return is_flat(value[0]) and all([is_flat(premise) for premise in value[1]]) and value in found


def shows_way(program, fact, value):
    """Whether any value is a way to any value as fact."""
    if not isinstance(value, tuple) or not value:
        return False
    found = {clause: True for clause in clauses(program)}
    ahead = {}
    for clause in value:
        if not is_clause(clause, found) or not all([premise in ahead for premise in clause[1]]):
            return False
        ahead[clause[0]] = True
    return value[-1][0] == fact


def is_ascending(value, heads):
    """Whether any value is an ascending tuple of some of these facts, which are the keys of a dict."""
    if not isinstance(value, tuple) or not all([is_known(fact, heads) for fact in value]):
        return False
    return value == tuple(sorted(set(value)))


def shows_closed(program, fact, value):
    """Whether any value is a closed set without any value as fact."""
    found = clauses(program)
    if not is_ascending(value, {head: True for head, _ in found}):
        return False
    held = {each: True for each in value}
    if is_known(fact, held):
        return False
    return all([head in held or not all([each in held for each in premises]) for head, premises in found])

"""The facts of programs, and what shows that something is one of them or is none."""

from hungfacts.clauses import clauses
from hungfacts.deriving import least
from hungfacts.forms import is_flat
from hungfacts.memory import recalled


def work_out_least(program):
    return least(clauses(program))


def known_facts(program):
    """For each fact of a program its rank and the number of a clause for it."""
    return recalled(program, work_out_least)


def work_out_facts(program):
    return tuple(sorted([(fact, turn) for fact, (turn, _) in known_facts(program).items()]))


def facts(program):
    """The ascending tuple of (fact, rank) of all facts of a program."""
    return recalled(program, work_out_facts)


def is_known(fact, known):
    """Whether any value is one of these facts."""
    return is_flat(fact) and fact in known


def work_out_way(program, fact):
    found = clauses(program)
    known = known_facts(program)
    needed = {fact: True}
    waiting = [fact]
    while waiting:
        _, at = known[waiting.pop()]
        for premise in found[at][1]:
            if premise not in needed:
                needed[premise] = True
                waiting.append(premise)
    # Premises came in earlier rounds, so the fact itself is the only one of its round.
    ranked = sorted([known[each] for each in needed])
    return tuple([found[at] for _, at in ranked])


def way(program, fact):
    """A way to a fact, or None if it is no fact of the program."""
    return recalled(program, work_out_way, fact) if is_known(fact, known_facts(program)) else None


def closed(program, fact):
    """A closed set without a fact, or None if it is a fact of the program."""
    if is_known(fact, known_facts(program)):
        return None
    return tuple([each for each, _ in facts(program)])


def work_out_clause_keys(program):
    return {clause: True for clause in clauses(program)}


def clause_keys(program):
    """The clauses of a program, as keys."""
    return recalled(program, work_out_clause_keys)


def is_clause(value, found):
    """Whether any value is one of these clauses, which are the keys of a dict."""
    if not isinstance(value, tuple) or len(value) != 2 or not isinstance(value[1], tuple):
        return False
    return is_flat(value[0]) and all([is_flat(premise) for premise in value[1]]) and value in found


def shows_way(program, fact, value):
    """Whether any value is a way to any value as fact."""
    if not isinstance(value, tuple) or not value:
        return False
    found = clause_keys(program)
    ahead = {}
    for clause in value:
        if not is_clause(clause, found) or not all([premise in ahead for premise in clause[1]]):
            return False
        ahead[clause[0]] = True
    return value[-1][0] == fact


def work_out_heads(program):
    return {head: True for head, _ in clauses(program)}


def heads(program):
    """The facts of the clauses of a program, as keys."""
    return recalled(program, work_out_heads)


def is_ascending(value, allowed):
    """Whether any value is an ascending tuple of some of these facts, which are the keys of a dict."""
    if not isinstance(value, tuple) or not all([is_known(fact, allowed) for fact in value]):
        return False
    return value == tuple(sorted(set(value)))


def shows_closed(program, fact, value):
    """Whether any value is a closed set without any value as fact."""
    if not is_ascending(value, heads(program)):
        return False
    held = {each: True for each in value}
    if is_known(fact, held):
        return False
    outside = [premises for head, premises in clauses(program) if head not in held]
    return not any([all([each in held for each in premises]) for premises in outside])

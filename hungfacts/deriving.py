"""The least set of facts that some clauses call for."""


def watched(found):
    """For each premise the numbers of the clauses that have it."""
    behind = {}
    for at, (_, premises) in enumerate(found):
        for premise in premises:
            behind.setdefault(premise, []).append(at)
    return behind


def least(found):
    """For each fact of the least set of these clauses (its round, the number of a clause for it).

    found: a list or tuple of (fact, premises), no premise standing twice in a clause. The premises
    of the clause that is told came in earlier rounds.
    """
    behind = watched(found)
    missing = [len(premises) for _, premises in found]
    ready = [at for at, many in enumerate(missing) if many == 0]
    known = {}
    turn = 0
    while ready:
        turn += 1
        fresh = []
        for at in ready:
            fact = found[at][0]
            if fact not in known:
                known[fact] = (turn, at)
                fresh.append(fact)
        ready = []
        for fact in fresh:
            for at in behind.get(fact, []):
                missing[at] -= 1
                if missing[at] == 0:
                    ready.append(at)
    return known

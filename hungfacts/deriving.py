"""The least set of facts that some clauses call for."""


def watched(found):
    """For each premise the numbers of the clauses that have it."""
    behind = {}
    for at, (_, premises) in enumerate(found):
        for premise in premises:
            behind.setdefault(premise, []).append(at)
    return behind


class Net:
    """Clauses, ready to be gone through from premises to facts.

    found: a list or tuple of (fact, premises), no premise standing twice in a clause.
    """

    def __init__(self, found):
        self.found = found
        self.watchers = watched(found)
        self.missing = [len(premises) for _, premises in found]
        self.ready = [at for at, many in enumerate(self.missing) if many == 0]

    def least(self, given):
        """For each fact of the least set (its round, the number of a clause for it).

        given: facts that hold in any case; they come in the first round, by clause -1. The premises of
        the clause that is told came in earlier rounds.
        """
        missing = list(self.missing)
        known = {fact: (1, -1) for fact in given}
        fresh = list(known) + self._fresh(self.ready, known, 1)
        turn = 1
        while fresh:
            turn += 1
            ready = []
            for fact in fresh:
                for at in self.watchers.get(fact, ()):
                    missing[at] -= 1
                    if missing[at] == 0:
                        ready.append(at)
            fresh = self._fresh(ready, known, turn)
        return known

    def _fresh(self, ready, known, turn):
        """Take the facts of clauses whose premises all hold, and return those that did not hold yet."""
        fresh = []
        for at in ready:
            fact = self.found[at][0]
            if fact not in known:
                known[fact] = (turn, at)
                fresh.append(fact)
        return fresh


def least(found):
    """For each fact of the least set of these clauses (its round, the number of a clause for it)."""
    return Net(found).least(())

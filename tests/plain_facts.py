"""Facts and stages along the document: gone through round by round, clause by clause."""

from hungfacts.clauses import clauses

SORTS = {"flow": "at yes no called back raises", "worth": "holds keeps gives", "need": "needs wants reads"}


def plain_facts(program):
    """{fact: rank}, by going through all clauses in each round."""
    every, known, turn = clauses(program), {}, 0
    while True:
        turn += 1
        fresh = {fact for fact, premises in every if fact not in known and all(each in known for each in premises)}
        if not fresh:
            return known
        known |= {fact: turn for fact in fresh}


def sort_of(fact):
    return next(sort for sort, words in SORTS.items() if fact[0] in words.split())


def plain_solved(every, held, sort):
    """The least set of facts of this sort, if the facts of the other sorts in held hold."""
    others = {fact for fact in held if sort_of(fact) != sort}
    found = set()
    while True:
        fresh = {fact for fact, premises in every if sort_of(fact) == sort and set(premises) <= found | others} - found
        if not fresh:
            return found
        found |= fresh


def plain_staged(program, order):
    every = clauses(program)
    held, many = {fact for fact, _ in every}, 0
    while True:
        many += 1
        before = set(held)
        for sort in order:
            held = {fact for fact in held if sort_of(fact) != sort} | plain_solved(every, held, sort)
        if held == before:
            return many, tuple(sorted(held))

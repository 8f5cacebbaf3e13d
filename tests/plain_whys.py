"""Whys along the document: all chains of so few facts, by going on from each first fact."""

from hungfacts.clauses import clauses
from hungfacts.questions import answer
from hungfacts.solving import facts
from tests.plain import NAME


def all_words(program):
    return program.words + ("NONE", "BAD")


def plain_grounds(program, question):
    kind, *parts = question
    heads = {"called": "called", "reached": "at", "needed": "needs", "wanted": "wants", "read": "reads"}
    if kind in heads:
        return {(heads[kind], *parts)}
    if kind == "only":
        return {("holds", *parts, worth) for worth in all_words(program) + ("num",)}
    if kind == "ways":
        return {("yes", *parts), ("no", *parts)}
    home, line = parts
    rows = [row.split(" ") for row in program.unit(home).lines]
    if kind == "caught":
        deep = 0
        for at in range(line, len(rows)):
            deep += (rows[at][0] in ("if", "while", "try", "do")) - (rows[at][0] == "end")
            if rows[at][0] == "catch" and not deep:
                return {("at", home, at + 2)}
    head = next(at for at in range(line - 1, -1, -1) if rows[at][0] in ("open", "local"))
    params = rows[head][2:]
    names = [word for word in rows[line - 1][2::2] if NAME.fullmatch(word)]
    return {("holds", home, rows[head][1], str(params.index(name)) if name in params else name, word)
            for name in names for word in all_words(program)}


def plain_chains(change, question):
    """All shortest chains to the turn of a question."""
    fresh = set(change.came) | set(change.fell)
    turn = min(plain_grounds(change.elder, question) & fresh)
    elder, newer, fresh = (change.elder, change.newer, set(change.came))
    if turn not in fresh:
        elder, newer, fresh = (change.newer, change.elder, set(change.fell))
    known, before = {fact for fact, _ in facts(newer)}, set(clauses(elder))
    standing = [(fact, premises) for fact, premises in clauses(newer) if known.issuperset(premises)]
    chains = [(fact,) for fact in {fact for fact, premises in standing if (fact, premises) not in before} & fresh]
    while not [chain for chain in chains if chain[-1] == turn]:
        # Longer chains go on from facts that were come to by no shorter one.
        reached = {chain[-1] for chain in chains}
        chains = sorted({chain + (fact,) for chain in chains for fact, premises in standing
                         if chain[-1] in premises and fact in fresh and fact not in chain})
        assert chains and reached
    return sorted([chain for chain in chains if chain[-1] == turn])


def plain_candidates(program):
    """The candidates of a program: where a body is put in by the greatest budget of which all are taken."""
    calls = [(unit.name, at + 1) for unit in program.units for at, row in enumerate(unit.lines) if row.startswith("call ")]
    return [call for call in calls if answer(program, ("put", *call), budget=99) == "yes"]

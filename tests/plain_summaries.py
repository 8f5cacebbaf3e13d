"""Summaries along the document: by all possible sets and all cases of small units."""

import itertools

from hungfacts.clauses import unit_clauses


def worths_of(unit):
    return unit.words + ("NONE", "BAD", "num")


def plain_inputs(unit):
    found = []
    for f, many in unit.opens:
        found += [("called", unit.name, f), ("wants", unit.name, f)]
        found += [("holds", unit.name, f, str(i), w) for i in range(many) for w in worths_of(unit)]
    for v, g, many in unit.asks:
        found += [("back", v, g)] + [("gives", v, g, w) for w in worths_of(unit)]
        found += [("raises", v, g, w) for w in worths_of(unit)[:-1]] + [("needs", v, g, str(i)) for i in range(many)]
    return sorted(found)


def plain_outputs(unit):
    found = []
    for f, many in unit.opens:
        found += [("back", unit.name, f)] + [("gives", unit.name, f, w) for w in worths_of(unit)]
        found += [("raises", unit.name, f, w) for w in worths_of(unit)[:-1]]
        found += [("needs", unit.name, f, str(i)) for i in range(many)]
    for v, g, many in unit.asks:
        found += [("called", v, g), ("wants", v, g)] + [("holds", v, g, str(i), w) for i in range(many) for w in worths_of(unit)]
    return sorted(found)


def plain_follows(unit, some):
    held = set(some)
    every = unit_clauses(unit)
    while True:
        fresh = {fact for fact, premises in every if fact not in held and held.issuperset(premises)}
        if not fresh:
            return tuple([fact for fact in plain_outputs(unit) if fact in held])
        held |= fresh


def subsets(items):
    return itertools.chain.from_iterable(itertools.combinations(items, k) for k in range(len(items) + 1))


def is_possible(unit, some):
    for f, many in unit.opens:
        places = [[c for c in some if c[:4] == ("holds", unit.name, f, str(i))] for i in range(many)]
        if ("called", unit.name, f) in some and not all(places):
            return False
        if ("called", unit.name, f) not in some and (any(places) or ("wants", unit.name, f) in some):
            return False
    return all((("back", v, g) in some) == any(c[:3] == ("gives", v, g) for c in some) for v, g, _ in unit.asks)


def all_conditions(unit):
    found = plain_inputs(unit)
    found += [("unlike", unit.name, f, str(i), w) for f, many in unit.opens for i in range(many) for w in worths_of(unit)]
    return found + [("other", v, g, w) for v, g, _ in unit.asks for w in worths_of(unit)]


def includes(one, other):
    if other[0] == "called":
        return one[0] in ("wants", "holds", "unlike") and one[1:3] == other[1:3]
    if other[0] == "back":
        return one[0] in ("gives", "other") and one[1:3] == other[1:3]
    if other[0] == "unlike":
        return one[0] == "holds" and one[1:4] == other[1:4] and one[4] != other[4]
    return other[0] == "other" and one[0] == "gives" and one[1:3] == other[1:3] and one[3] != other[3]


def covers(one, other):
    return all(any(mine == yours or includes(mine, yours) for mine in one) for yours in other)


def meets(some, condition):
    if condition[0] == "unlike":
        return any(c[0] == "holds" and c[1:4] == condition[1:4] and c[4] != condition[4] for c in some)
    if condition[0] == "other":
        return any(c[0] == "gives" and c[1:3] == condition[1:3] and c[3] != condition[3] for c in some)
    return condition in some


def independent(conditions):
    """Bundles of conditions none of which includes one of another bundle, or is possible just with one."""
    bundles = {}
    for each in conditions:
        alone = each[0] in ("raises", "needs")
        bundles.setdefault(each if alone else each[1:3], []).append(each)
    return list(bundles.values())


def possible_sets(unit):
    bundles = [[some for some in map(set, subsets(bundle)) if is_possible(unit, some)]
               for bundle in independent(plain_inputs(unit))]
    return [set().union(*some) for some in itertools.product(*bundles)]


def all_cases(unit):
    """All tuples of conditions none of which includes another one, by bundle."""
    return [list(unrelated(bundle)) for bundle in independent(all_conditions(unit))]


def unrelated(conditions):
    """All tuples of some of these conditions, none of which includes another one."""
    if not conditions:
        yield ()
        return
    first, *others = conditions
    yield from unrelated(others)
    for some in unrelated([each for each in others if not includes(first, each) and not includes(each, first)]):
        yield (first,) + some


def plain_summary(unit):
    possible = possible_sets(unit)
    everywhere = (1 << len(possible)) - 1
    met = {c: sum(1 << at for at, some in enumerate(possible) if meets(some, c)) for c in all_conditions(unit)}
    after = [set(plain_follows(unit, some)) for some in possible]
    fails = {o: sum(1 << at for at, found in enumerate(after) if o not in found) for o in plain_outputs(unit)}
    cases = [((), everywhere)]
    for bundle in all_cases(unit):
        rows = []
        for some in bundle:
            mask = everywhere
            for each in some:
                mask &= met[each]
            rows.append((some, mask))
        cases = [(one + other, mask & more) for one, mask in cases for other, more in rows]
    found = []
    for output in plain_outputs(unit):
        least = []
        for case, mask in sorted(cases, key=lambda row: -row[1].bit_count()):
            if not mask & fails[output] and not any(covers(case, each) for each in least):
                least = [each for each in least if not covers(each, case)] + [case]
        if least:
            found.append((output, tuple(sorted(tuple(sorted(case)) for case in least))))
    return tuple(found)

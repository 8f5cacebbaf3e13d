"""Conditions of cases: inputs, and that a place or a function has another worth than one."""


def included(condition, worths):
    """The conditions that a condition includes."""
    kind, home, name = condition[:3]
    if kind == "wants":
        return [("called", home, name)]
    if kind == "unlike":
        return [("called", home, name)]
    if kind == "other":
        return [("back", home, name)]
    if kind == "holds":
        place, worth = condition[3:]
        return [("called", home, name)] + [("unlike", home, name, place, each) for each in worths if each != worth]
    if kind == "gives":
        return [("back", home, name)] + [("other", home, name, each) for each in worths if each != condition[3]]
    return []


def with_included(case, worths):
    """The conditions of a case and those that they include, as the keys of a dict."""
    found = {condition: True for condition in case}
    for condition in case:
        for each in included(condition, worths):
            found[each] = True
    return found


def subsets(items):
    """All tuples of some of these items, in their order."""
    found = [()]
    for item in items:
        found = found + [some + (item,) for some in found]
    return found


def without(items, item):
    return tuple([each for each in items if each != item])


class Choice:
    """What a case may ask of a slot, or of a single input.

    conditions: what stands in the case. ways: the least sets of levels that meet these. weaker: the
    numbers of those choices that ask for a little less.
    """

    def __init__(self, conditions, ways, weaker):
        self.conditions = conditions
        self.ways = ways
        self.weaker = weaker


class Part:
    """A slot or a single input: its last level and the choices, each behind its weaker ones."""

    def __init__(self, last, choices):
        self.last = last
        self.choices = choices


def single(level, condition):
    """The part of an input that holds or not, whatever the others of its group do."""
    return Part(level, [Choice((), [()], []), Choice((condition,), [(level,)], [0])])


def slot(levels, has, but):
    """The part of a place or of what a function gives, which has one worth at least.

    levels: for each worth that of its input. has: for each worth the condition of having it. but: for
    each worth the condition of having another one.
    """
    spots = tuple(list(range(len(levels))))
    asked = [((), avoided) for avoided in sorted(subsets(spots), key=len)]
    for one in spots:
        asked += [((one,), ()), ((one,), (one,))]
    asked += [(kept, ()) for kept in sorted(subsets(spots), key=len) if len(kept) > 1]
    numbers = {each: at for at, each in enumerate(asked)}
    choices = []
    for kept, avoided in asked:
        conditions = tuple([has[one] for one in kept] + [but[one] for one in avoided])
        ways = [tuple([levels[one] for one in some]) for some in least_ways(kept, avoided, spots)]
        choices.append(Choice(conditions, ways, [numbers[each] for each in weaker_ones(kept, avoided, spots)]))
    return Part(levels[-1], choices)


def least_ways(kept, avoided, spots):
    """The least sets of spots that have all of kept, and for each avoided one another one."""
    if kept and avoided:
        return [tuple(sorted((kept[0], one))) for one in spots if one != kept[0]]
    if kept:
        return [kept]
    alone = [(one,) for one in spots if one not in avoided]
    return alone + [some for some in subsets(avoided) if len(some) == 2]


def weaker_ones(kept, avoided, spots):
    """What asks a little less than having all of kept, and for each avoided one another one."""
    if not kept:
        return [((), without(avoided, one)) for one in avoided]
    if len(kept) == 1 and not avoided:
        return [((), without(spots, kept[0]))]
    if len(kept) == 1:
        return [(kept, ()), ((), spots)]
    if len(kept) == 2:
        return [((one,), (one,)) for one in kept]
    return [(without(kept, one), ()) for one in kept]

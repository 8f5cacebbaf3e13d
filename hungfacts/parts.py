"""What a case may ask of the parts of a group: of single inputs, and of slots."""


class Choice:
    """What a case may ask of a part.

    conditions: what stands in the case. ways: the least sets of levels that meet these. weaker: the
    numbers of those choices that ask for a little less.
    """

    def __init__(self, conditions, ways, weaker):
        self.conditions = conditions
        self.ways = ways
        self.weaker = weaker


class Part:
    """A single input, or a slot: a place, or what a function gives, which has one worth at least.

    levels: those of its inputs. has: for each of them the condition of having it. but: for each input
    of a slot the condition of having another one; () of a single input.
    """

    def __init__(self, levels, has, but):
        self.levels = levels
        self.last = levels[-1]
        self.has = has
        self.but = but
        self.known = {}

    def choices(self, asked):
        """The choices that may tell anything apart, each behind its weaker ones.

        asked: the levels for which a function asks, as keys.
        """
        spots = tuple([at for at, level in enumerate(self.levels) if level in asked])
        if spots not in self.known:
            self.known[spots] = self._choices_of(spots)
        return self.known[spots]

    def _choices_of(self, spots):
        others = [at for at in range(len(self.levels)) if at not in spots]
        if not self.but or len(others) > 1:
            rows = rows_without_slot(spots)
        elif others:
            rows = rows_with_other(spots, others[0])
        else:
            rows = rows_of_slot(spots)
        numbers = {row[:2]: at for at, row in enumerate(rows)}
        return [self._choice(kept, avoided, ways, [numbers[each] for each in weaker])
                for kept, avoided, ways, weaker in rows]

    def _choice(self, kept, avoided, ways, weaker):
        conditions = tuple([self.has[one] for one in kept] + [self.but[one] for one in avoided])
        return Choice(conditions, [tuple([self.levels[one] for one in way]) for way in ways], weaker)


def subsets(items):
    """All tuples of some of these items, in their order."""
    found = [()]
    for item in items:
        found = found + [some + (item,) for some in found]
    return found


def without(items, item):
    return tuple([each for each in items if each != item])


def several(spots, least):
    """All tuples of so many of these spots at least, the shorter ones first."""
    return [some for some in sorted(subsets(spots), key=len) if len(some) >= least]


# Each of the following functions returns rows (kept, avoided, ways, weaker): what has all of the spots
# kept, and for each one avoided another one; the least sets of spots that meet this; and the rows, by
# their kept and avoided, that ask for a little less.


def rows_without_slot(spots):
    """The rows where other inputs than those of the spots may be there, too, and tell nothing."""
    none = [((), (), [()], [])]
    return none + [(kept, (), [kept], [(without(kept, one), ()) for one in kept]) for kept in several(spots, 1)]


def rows_with_other(spots, other):
    """The rows where one input of the slot tells nothing: who has another one has one of the spots."""
    none = [((), (), [()], []), ((), (other,), [(one,) for one in spots], [((), ())])]
    alone = [((one,), (), [(one,)], [((), (other,))]) for one in spots]
    more = [(kept, (), [kept], [(without(kept, one), ()) for one in kept]) for kept in several(spots, 2)]
    return none + alone + more


def rows_of_slot(spots):
    """The rows where each input of the slot may tell something."""
    rows = [((), avoided, least_ways((), avoided, spots), [((), without(avoided, one)) for one in avoided])
            for avoided in several(spots, 0)]
    for spot in spots:
        alone = (spot,)
        rows.append((alone, (), [alone], [((), without(spots, spot))]))
        rows.append((alone, alone, least_ways(alone, alone, spots), [(alone, ()), ((), spots)]))
    for kept in several(spots, 2):
        weaker = [((one,), (one,)) for one in kept] if len(kept) == 2 else [(without(kept, one), ()) for one in kept]
        rows.append((kept, (), [kept], weaker))
    return rows


def least_ways(kept, avoided, spots):
    """The least sets of spots that have all of kept, and for each avoided one another one."""
    if kept and avoided:
        return [tuple(sorted((kept[0], one))) for one in spots if one != kept[0]]
    if kept:
        return [kept]
    alone = [(one,) for one in spots if one not in avoided]
    return alone + [some for some in subsets(avoided) if len(some) == 2]

"""Whether any surrounding can tell two editions of a unit apart, and one that does."""

from hungfacts.conditions import with_included
from hungfacts.errors import BadRoots, BadUnit, BadUnits, NoFunction, NoRoom, NotEditions
from hungfacts.forms import is_flat, is_integer
from hungfacts.parts import least_ways
from hungfacts.programs import Program
from hungfacts.sites import worths_of
from hungfacts.solving import known_facts
from hungfacts.summaries import outputs, summary
from hungfacts.surroundings import texts_around
from hungfacts.units import Unit

MAIN = "main"
ROOTS = (("main", "main"),)


def all_asks(one, other):
    return tuple(sorted(set(one.asks + other.asks)))


def are_editions(one, other):
    if one.words != other.words or one.name != other.name or one.opens != other.opens:
        return False
    asks = all_asks(one, other)
    return len(set([ask[:2] for ask in asks])) == len(asks)


def check_room(one, other):
    """Raise what stands against a surrounding of these two units."""
    if not are_editions(one, other):
        raise NotEditions()
    if MAIN in [one.name] + [ask[0] for ask in all_asks(one, other)]:
        raise NoRoom(MAIN)


def alike(one, other):
    """Whether two editions of a unit have equal summaries."""
    if not are_editions(one, other):
        raise NotEditions()
    return summary(one) == summary(other)


def leads(case, cases, worths):
    """Whether a case leads to the output whose least cases these are."""
    conditions = with_included(case, worths)
    return any([all([each in conditions for each in some]) for some in cases])


def slots_of(one, other):
    """For each slot of two editions: its opener, and the first parts of what tells of having a worth
    and of having another one."""
    found = []
    for name, many in one.opens:
        for place in range(many):
            spot = (one.name, name, str(place))
            found.append((("called", one.name, name), ("holds", *spot), ("unlike", *spot)))
    for home, name, _ in all_asks(one, other):
        found.append((("back", home, name), ("gives", home, name), ("other", home, name)))
    return found


def narrowed(case, cases, slots, worths):
    """A possible set, as keys, that meets a case and none of these cases, to none of which it leads."""
    for opener, has, but in slots:
        conditions = with_included(case, worths)
        if opener not in conditions:
            continue
        kept = tuple([worth for worth in worths if has + (worth,) in case])
        avoided = tuple([worth for worth in worths if but + (worth,) in case])
        narrower = [case + tuple([has + (worth,) for worth in way]) for way in least_ways(kept, avoided, worths)]
        # What each of these leads to, the case leads to, so one is left.
        case = [each for each in narrower if not leads(each, cases, worths)][0]
    return {fact: True for fact in with_included(case, worths) if fact[0] not in ("unlike", "other")}


def difference(one, other):
    """(inputs as keys, output, which): with these inputs the output follows in just one of two editions."""
    worths = worths_of(one.words)
    told = (dict(summary(one)), dict(summary(other)))
    for which in (0, 1):
        for output, cases in told[which].items():
            others = told[1 - which].get(output, ())
            for case in cases:
                if not leads(case, others, worths):
                    return narrowed(case, others, slots_of(one, other), worths), output, which
    return None


def parting(one, other):
    """None for editions that are alike; otherwise texts around them, a fact, and with which it holds."""
    check_room(one, other)
    found = difference(one, other)
    if found is None:
        return None
    held, output, which = found
    return texts_around(one, all_asks(one, other), held), output, which


def programs_around(one, other, texts):
    """The programs of each of two units and the texts around it, None if they are no programs."""
    try:
        units = tuple([Unit(one.words, text) for text in texts])
        return (Program((one,) + units, ROOTS), Program((other,) + units, ROOTS))
    except (BadUnit, BadUnits, BadRoots, NoFunction):
        return None


def shows_parting(one, other, value):
    """Whether any value is what parting may return for editions that are not alike."""
    check_room(one, other)
    if not isinstance(value, tuple) or len(value) != 3:
        return False
    texts, fact, which = value
    if not isinstance(texts, tuple) or not all([isinstance(text, str) for text in texts]):
        return False
    if not is_integer(which) or which not in (0, 1) or not is_flat(fact) or fact not in outputs(one) + outputs(other):
        return False
    programs = programs_around(one, other, texts)
    if programs is None:
        return False
    known = [fact in known_facts(program) for program in programs]
    return known[which] and not known[1 - which]

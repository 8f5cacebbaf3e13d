"""The inputs of a unit, in groups of which each has one input that all others of it need."""

from hungfacts.forms import FIXED
from hungfacts.parts import Part
from hungfacts.sites import worths_of


class Group:
    """An input, the opener, and the parts with the inputs that are there only with it.

    first: the level of the opener. last: the last level of the group. inputs: its inputs, by level.
    """

    def __init__(self, first, inputs, parts):
        self.first = first
        self.last = first + len(inputs) - 1
        self.opener = inputs[0]
        self.inputs = inputs
        self.parts = parts


def group_of_opened(first, words, called, many):
    """The group of an open function of the unit itself, with so many parameters."""
    inputs = [("called", *called), ("wants", *called)]
    parts = [Part([first + 1], [("wants", *called)], [])]
    for place in range(many):
        has = [("holds", *called, str(place), worth) for worth in worths_of(words)]
        but = [("unlike", *called, str(place), worth) for worth in worths_of(words)]
        at = first + len(inputs)
        parts.append(Part(list(range(at, at + len(has))), has, but))
        inputs += has
    return Group(first, inputs, parts)


def group_of_given(first, words, called):
    """The group of coming back from a function of another unit."""
    has = [("gives", *called, worth) for worth in worths_of(words)]
    but = [("other", *called, worth) for worth in worths_of(words)]
    levels = list(range(first + 1, first + 1 + len(has)))
    return Group(first, [("back", *called)] + has, [Part(levels, has, but)])


def groups_of(unit):
    """The groups of a unit, ascending by level."""
    found = []
    first = 0
    for name, many in unit.opens:
        found.append(group_of_opened(first, unit.words, (unit.name, name), many))
        first = found[-1].last + 1
    for home, name, many in unit.asks:
        found.append(group_of_given(first, unit.words, (home, name)))
        first = found[-1].last + 1
        alone = [("raises", home, name, word) for word in unit.words + FIXED]
        alone += [("needs", home, name, str(place)) for place in range(many)]
        for each in alone:
            found.append(Group(first, [each], []))
            first += 1
    return found

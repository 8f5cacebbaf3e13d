"""Yes-or-no functions of numbered inputs that say yes all the more, the more inputs there are.

A function is kept as a decision diagram: a node asks for one input and goes on to one of two nodes.
Equal functions have the same number, so they are compared by these.
"""

NEVER = 0
ALWAYS = 1
# The level of what asks for no input: behind all levels of inputs.
BOTTOM = 1000000


class Diagrams:
    """Functions by their numbers; the level of a node is the number of the input for which it asks."""

    def __init__(self):
        self.levels = [BOTTOM, BOTTOM]
        self.lows = [NEVER, ALWAYS]
        self.highs = [NEVER, ALWAYS]
        self.nodes = {}
        self.boths = {}
        self.eithers = {}

    def node(self, level, low, high):
        """The function that is high with this input, and low without it."""
        if low == high:
            return low
        key = (level, low, high)
        if key not in self.nodes:
            self.nodes[key] = len(self.levels)
            self.levels.append(level)
            self.lows.append(low)
            self.highs.append(high)
        return self.nodes[key]

    def needing(self, level):
        """The function that is yes just with this input."""
        return self.node(level, NEVER, ALWAYS)

    def below(self, node, level):
        """What a function whose level is this one or a later one is without this input, and with it."""
        if self.levels[node] == level:
            return self.lows[node], self.highs[node]
        return node, node

    def both(self, one, other):
        if one == other or other == ALWAYS:
            return one
        if one == NEVER or other == NEVER:
            return NEVER
        if one == ALWAYS:
            return other
        key = (one, other) if one < other else (other, one)
        if key not in self.boths:
            level = min(self.levels[one], self.levels[other])
            low_one, high_one = self.below(one, level)
            low_other, high_other = self.below(other, level)
            low = self.both(low_one, low_other)
            self.boths[key] = self.node(level, low, self.both(high_one, high_other))
        return self.boths[key]

    def either(self, one, other):
        if one == other or other == NEVER:
            return one
        if one == ALWAYS or other == ALWAYS:
            return ALWAYS
        if one == NEVER:
            return other
        key = (one, other) if one < other else (other, one)
        if key not in self.eithers:
            level = min(self.levels[one], self.levels[other])
            low_one, high_one = self.below(one, level)
            low_other, high_other = self.below(other, level)
            low = self.either(low_one, low_other)
            self.eithers[key] = self.node(level, low, self.either(high_one, high_other))
        return self.eithers[key]

    def given(self, node, last, present):
        """What is left of a function if up to the level last just the inputs of these levels are there."""
        while self.levels[node] <= last:
            node = self.highs[node] if self.levels[node] in present else self.lows[node]
        return node

    def levels_asked(self, node, last):
        """The levels up to the level last for whose inputs a function asks, as keys."""
        found = {}
        seen = {node: True}
        waiting = [node]
        while waiting:
            node = waiting.pop()
            if self.levels[node] <= last:
                found[self.levels[node]] = True
                for each in (self.lows[node], self.highs[node]):
                    if each not in seen:
                        seen[each] = True
                        waiting.append(each)
        return found

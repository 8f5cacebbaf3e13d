"""A row of a function, told in the terms of facts and clauses.

A clause is kept here as a pair of a fact and a list of premises, in any order.
"""

from hungfacts.forms import FIXED, NUM, is_name, is_numeral


def worths_of(words):
    """All worths of a program with these words."""
    return words + FIXED + (NUM,)


class Site:
    """A row of a function of a unit: the facts that speak of it, and clauses over these."""

    def __init__(self, unit, function, row):
        self.home = unit.name
        self.function = function
        self.row = row
        self.capitals = unit.words + FIXED
        self.worths = worths_of(unit.words)
        self.here = self.at(row.line)

    def at(self, line):
        return ("at", self.home, line)

    def yes(self):
        return ("yes", self.home, self.row.line)

    def no(self):
        return ("no", self.home, self.row.line)

    def holds(self, name, worth):
        return ("holds", self.home, self.function.name, self.function.spot(name), worth)

    def needs(self, name):
        return ("needs", self.home, self.function.name, self.function.spot(name))

    def cases(self, operand):
        """For each worth that an operand may have: the worth, and the premises of that here."""
        if is_name(operand):
            return [(worth, [self.here, self.holds(operand, worth)]) for worth in self.worths]
        return [(NUM if is_numeral(operand) else operand, [self.here])]

    def both_numbers(self, one, other):
        """The premises of both operands being integers here, in a list; [] if they cannot be."""
        ones = [premises for worth, premises in self.cases(one) if worth == NUM]
        others = [premises for worth, premises in self.cases(other) if worth == NUM]
        return [left + right for left in ones for right in others]

    def some_word(self, one, other):
        """The lists of premises of one of the operands being a word here."""
        cases = self.cases(one) + self.cases(other)
        return [premises for worth, premises in cases if worth != NUM]

    def goes_on(self, premises):
        """The clause of going on behind the whole statement."""
        return (self.at(self.row.last + 1), premises)

    def faults(self, word, premises):
        """The clauses of a fault with this word at this line."""
        guard = self.row.guard
        if guard is None:
            return [(("raises", self.home, self.function.name, word), premises)]
        return [(self.holds(guard.words[1], word), premises), (self.at(guard.line + 1), premises)]

    def matters(self, operands, premises):
        """The clauses of these operands being needed, as far as they are names."""
        return [(self.needs(name), premises) for name in operands if is_name(name)]

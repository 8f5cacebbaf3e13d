"""Units and their words."""

from hungfacts.errors import BadUnit, BadWords
from hungfacts.forms import FIXED, is_capital
from hungfacts.reading import read_unit


def is_words(value):
    """Whether any value is the words of a program (without NONE and BAD)."""
    if not isinstance(value, tuple) or not 1 <= len(value) <= 3:
        return False
    if not all([isinstance(word, str) for word in value]):
        return False
    return len(set(value)) == len(value) and all([is_capital(word) and word not in FIXED for word in value])


class Unit:
    """A unit, read from its text.

    Beyond what the interface names: cells, a (name, first value) for each, and functions, the
    Function of each, both in the order of their lines; memory, what was worked out about it.
    """

    def __init__(self, words, text):
        if not is_words(words):
            raise BadWords(words)
        if not isinstance(text, str):
            raise BadUnit(0)
        read = read_unit(words, text)
        self.words = words
        self.text = text
        self.name = read.name
        self.lines = tuple(text.split("\n"))
        self.cells = tuple(list(read.cells.items()))
        self.functions = tuple(list(read.functions.values()))
        self.opens = tuple(sorted([(each.name, len(each.params)) for each in self.functions if each.shared]))
        self.asks = tuple(sorted([called + (many,) for called, many in read.asked.items()]))
        self.memory = {}

    def __eq__(self, other):
        return isinstance(other, Unit) and self.words == other.words and self.text == other.text

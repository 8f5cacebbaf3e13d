"""What several tests use."""

import unittest

from hungfacts.clauses import unit_clauses
from hungfacts.errors import BadUnit
from hungfacts.programs import Program
from hungfacts.units import Unit

WORDS = ("ON",)


def spread(text):
    """A text in which " / " stands for the end of a line, with its line feeds."""
    return text.replace(" / ", "\n")


def unit(text, words=WORDS):
    return Unit(words, spread(text))


def program(texts, roots, words=WORDS):
    return Program(tuple([unit(text, words) for text in texts]), roots)


def bad_line(text, words=WORDS):
    """The line that BadUnit tells of a text; None: it is a unit."""
    try:
        unit(text, words)
    except BadUnit as wrong:
        return wrong.line
    return None


def fact(text):
    parts = text.split(" ")
    if parts[0] in ("at", "yes", "no"):
        parts[2] = int(parts[2])
    return tuple(parts)


def clause(row):
    head, _, behind = row.partition(" <- ")
    premises = [fact(text) for text in behind.split(", ")] if behind else []
    return (fact(head), tuple(sorted(premises)))


def spelled(row, words):
    """A row for each worth in the place of ?, or for each word in the place of !."""
    capitals = words + ("NONE", "BAD")
    if "?" in row:
        return [row.replace("?", worth) for worth in capitals + ("num",)]
    if "!" in row:
        return [row.replace("!", word) for word in capitals]
    return [row]


def told(text, words=WORDS):
    """The clauses of a text with one in each line, FACT <- PREMISE, PREMISE, in ascending order."""
    rows = [row.strip() for row in text.strip().split("\n")]
    return tuple(sorted([clause(each) for row in rows for each in spelled(row, words)]))


class ClauseTest(unittest.TestCase):
    maxDiff = None

    def look(self, text, expected, words=("ON",)):
        found = unit_clauses(unit(text, words))
        self.assertEqual(found, told(expected, words))
        self.assertEqual(found, tuple(sorted(set(found))))
        return found

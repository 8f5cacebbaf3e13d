"""Writing down the texts of units that surround a unit so that just some inputs of it hold.

What is written takes all its ways as far as facts tell: behind `if 0 < 1` both ways are facts. It does
nothing else than what the inputs say, whatever the unit itself does.
"""

from hungfacts.forms import FIXED, NUM
from hungfacts.sites import worths_of


def operand_of(worth):
    return "0" if worth == NUM else worth


def perhaps(row):
    return ["if 0 < 1", row, "end"]


def calls_of(unit, name, many, held):
    """The rows that call an open function with the worths that its places hold."""
    places = [[worth for worth in worths_of(unit.words) if ("holds", unit.name, name, str(place), worth) in held]
              for place in range(many)]
    # What is shown elsewhere is wanted, whether the call comes back or not.
    result = "x" if ("wants", unit.name, name) in held else "y"
    rows = []
    for turn in range(max([1] + [len(worths) for worths in places])):
        operands = [operand_of(worths[turn % len(worths)]) for worths in places]
        rows += perhaps(" ".join(["call", result, unit.name + "." + name] + operands))
    return rows


def main_text(unit, held):
    """The text of the unit that calls the open functions of a unit, held being its inputs, as keys."""
    rows = ["unit main", "open main", "do", "let x 0", "show x", "end"]
    for name, many in unit.opens:
        if ("called", unit.name, name) in held:
            rows += calls_of(unit, name, many, held)
    return "\n".join(rows + ["end"])


def function_rows(words, called, many, held):
    """The rows of a function that does what the inputs say."""
    rows = [" ".join(["open", called[1]] + ["p" + str(place) for place in range(many)])]
    rows += ["show p" + str(place) for place in range(many) if ("needs", *called, str(place)) in held]
    ends = ["raise " + word for word in words + FIXED if ("raises", *called, word) in held]
    ends += ["give " + operand_of(worth) for worth in worths_of(words) if ("gives", *called, worth) in held]
    for row in ends[:-1]:
        rows += perhaps(row)
    # Without a way out the function never comes to its end, where it would give NONE.
    rows += ends[-1:] if ends else ["while " + words[0] + " is " + words[0], "end"]
    return rows + ["end"]


def other_texts(words, asks, held):
    """The texts of the units that are asked, asks being (unit, function, number of operands), ascending."""
    rows = {}
    for home, name, many in asks:
        rows.setdefault(home, ["unit " + home]).extend(function_rows(words, (home, name), many, held))
    return ["\n".join(each) for each in rows.values()]


def texts_around(unit, asks, held):
    return tuple([main_text(unit, held)] + other_texts(unit.words, asks, held))

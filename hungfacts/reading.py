"""Reading the text of a unit, line by line."""

from hungfacts.ahead import Ahead
from hungfacts.errors import BadUnit
from hungfacts.forms import is_name
from hungfacts.statements import stands_within


def read_unit(words, text):
    """What the text of a unit tells, as an Ahead with all its lines; raises BadUnit."""
    ahead = Ahead(words)
    lines = text.split("\n")
    for at, text_line in enumerate(lines):
        if not take_line(ahead, at + 1, tuple(text_line.split(" "))):
            raise BadUnit(at + 1)
    if ahead.function is not None or not ahead.functions:
        raise BadUnit(len(lines) + 1)
    wrong = wrong_local_call(ahead)
    if wrong:
        raise BadUnit(wrong)
    return ahead


def take_line(ahead, line, words):
    """Take the next line, and tell whether it may stand there."""
    if line == 1:
        return take_first(ahead, words)
    if ahead.function is None:
        return take_outside(ahead, line, words)
    if not stands_within(ahead, words):
        return False
    if words[0] == "end" and not ahead.blocks:
        ahead.take_end(line)
    else:
        ahead.take_row(line, words)
    return True


def take_first(ahead, words):
    if len(words) != 2 or words[0] != "unit" or not is_name(words[1]):
        return False
    ahead.name = words[1]
    return True


def take_outside(ahead, line, words):
    """Take a line that stands in no function, and tell whether it may."""
    if cell_stands(ahead, words):
        ahead.take_cell(words[1], words[2])
        return True
    if function_stands(ahead, words):
        ahead.take_function(line, words)
        return True
    return False


def cell_stands(ahead, words):
    if len(words) != 3 or words[0] != "cell" or ahead.functions:
        return False
    return is_name(words[1]) and words[1] not in ahead.cells and words[2] in ahead.words


def function_stands(ahead, words):
    if not 2 <= len(words) <= 5 or words[0] not in ("open", "local"):
        return False
    if not is_name(words[1]) or words[1] in ahead.functions:
        return False
    params = words[2:]
    return len(set(params)) == len(params) and all([ahead.is_free(name, []) for name in params])


def wrong_local_call(ahead):
    """The first line that calls no local function, or one with other parameters; 0: none does."""
    for function in ahead.functions.values():
        for row in function.rows:
            if row.words[0] == "call" and is_wrong_call(ahead, row.words):
                return row.line
    return 0


def is_wrong_call(ahead, words):
    if "." in words[2]:
        return False
    called = ahead.functions.get(words[2])
    return called is None or called.shared or len(called.params) != len(words) - 3

"""Reading the text of a unit, line by line."""

from hungfacts.ahead import Ahead
from hungfacts.errors import BadUnit
from hungfacts.forms import is_name
from hungfacts.statements import stands_within


def read_unit(words, text):
    """What the text of a unit tells, as an Ahead with all its lines; raises BadUnit."""
    ahead = Ahead(words)
    lines = text.split("\n")
    for at, text_line in enumerate(lines):
        if not take_line(ahead, at + 1, tuple(text_line.split(" "))):
            raise BadUnit(at + 1)
    if ahead.function is not None or not ahead.functions:
        raise BadUnit(len(lines) + 1)
    wrong = wrong_local_call(ahead)
    if wrong:
        raise BadUnit(wrong)
    return ahead


def read_made(words, text):
    """What the text of a made unit tells, as an Ahead.

    It may have no function, and it may call open functions of its own by UNIT.NAME.
    """
    ahead = Ahead(words)
    for at, text_line in enumerate(text.split("\n")):
        take(ahead, at + 1, tuple(text_line.split(" ")))
    return ahead


def take_line(ahead, line, words):
    """Take the next line if it may stand there, and tell whether it may."""
    if not stands(ahead, line, words):
        return False
    take(ahead, line, words)
    return True


def stands(ahead, line, words):
    """Whether the next line may stand there."""
    if line == 1:
        return first_stands(words)
    if ahead.function is None:
        return cell_stands(ahead, words) or function_stands(ahead, words)
    return stands_within(ahead, words)


def take(ahead, line, words):
    """Take the next line, which may stand there."""
    if line == 1:
        ahead.name = words[1]
    elif words[0] == "cell":
        ahead.take_cell(words[1], words[2])
    elif words[0] in ("open", "local"):
        ahead.take_function(line, words)
    elif words[0] == "end" and not ahead.blocks:
        ahead.take_end(line)
    else:
        ahead.take_row(line, words)


def first_stands(words):
    return len(words) == 2 and words[0] == "unit" and is_name(words[1])


def cell_stands(ahead, words):
    if len(words) != 3 or words[0] != "cell" or ahead.functions:
        return False
    return is_name(words[1]) and words[1] not in ahead.cells and words[2] in ahead.words


def function_stands(ahead, words):
    if not 2 <= len(words) <= 5 or words[0] not in ("open", "local"):
        return False
    if not is_name(words[1]) or words[1] in ahead.functions:
        return False
    params = words[2:]
    return len(set(params)) == len(params) and all([ahead.is_free(name, []) for name in params])


def wrong_local_call(ahead):
    """The first line that calls no local function, or one with other parameters; 0: none does."""
    for function in ahead.functions.values():
        for row in function.rows:
            if row.words[0] == "call" and is_wrong_call(ahead, row.words):
                return row.line
    return 0


def is_wrong_call(ahead, words):
    if "." in words[2]:
        return False
    called = ahead.functions.get(words[2])
    return called is None or called.shared or len(called.params) != len(words) - 3

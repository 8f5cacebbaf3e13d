"""Which lines may stand within a function, by the lines ahead of them.

Each function here takes what was read (an Ahead) and the words of the line.
"""

from hungfacts.forms import called_function, is_name


def is_term(ahead, words):
    """Whether these words are A or A OP B."""
    if len(words) == 3:
        return words[1] in ("+", "-", "*") and ahead.is_operand(words[0]) and ahead.is_operand(words[2])
    return len(words) == 1 and ahead.is_operand(words[0])


def is_test(ahead, words):
    """Whether these words are A is W or A < B."""
    if len(words) != 3 or not ahead.is_operand(words[0]):
        return False
    if words[1] == "is":
        return words[2] in ahead.words
    return words[1] == "<" and ahead.is_operand(words[2])


def is_called(ahead, text, many):
    """Whether a call with so many operands may name this function here.

    Whether a local function is there is not asked: it may stand behind its call.
    """
    if "." not in text:
        return is_name(text)
    called = called_function(ahead.name, text)
    if not is_name(called[0]) or not is_name(called[1]) or called[0] == ahead.name:
        return False
    return ahead.asked.get(called, many) == many


def let_stands(ahead, words):
    return len(words) > 2 and ahead.is_free(words[1], ahead.scopes) and is_term(ahead, words[2:])


def set_stands(ahead, words):
    if len(words) < 3 or words[1] in ahead.function.params:
        return False
    return ahead.is_in_scope(words[1]) and is_term(ahead, words[2:])


def call_stands(ahead, words):
    many = len(words) - 3
    if not 0 <= many <= 3 or not ahead.is_free(words[1], ahead.scopes):
        return False
    return is_called(ahead, words[2], many) and all([ahead.is_operand(word) for word in words[3:]])


def get_stands(ahead, words):
    return len(words) == 3 and ahead.is_free(words[1], ahead.scopes) and words[2] in ahead.cells


def keep_stands(ahead, words):
    return len(words) == 3 and words[1] in ahead.cells and ahead.is_operand(words[2])


def operand_stands(ahead, words):
    return len(words) == 2 and ahead.is_operand(words[1])


def test_stands(ahead, words):
    return is_test(ahead, words[1:])


def alone_stands(ahead, words):
    return len(words) == 1


def else_stands(ahead, words):
    return len(words) == 1 and ahead.block_without_second("if")


def catch_stands(ahead, words):
    # The first part ends here, so its names are in scope no more.
    if len(words) != 2 or not ahead.block_without_second("try"):
        return False
    return ahead.is_free(words[1], ahead.scopes[:-1])


def end_stands(ahead, words):
    return len(words) == 1 and not ahead.block_without_second("try")


STATEMENTS = {
    "let": let_stands,
    "set": set_stands,
    "call": call_stands,
    "get": get_stands,
    "keep": keep_stands,
    "show": operand_stands,
    "give": operand_stands,
    "raise": operand_stands,
    "if": test_stands,
    "while": test_stands,
    "try": alone_stands,
    "do": alone_stands,
    "else": else_stands,
    "catch": catch_stands,
    "end": end_stands,
}


def stands_within(ahead, words):
    """Whether a line may stand here within a function."""
    stands = STATEMENTS.get(words[0])
    return stands is not None and stands(ahead, words)

"""The forms that the words of a line have."""

LOWER = "abcdefghijklmnopqrstuvwxyz"
UPPER = "ABCDEFGHIJKLMNOPQRSTUVWXYZ"
DIGITS = "0123456789"
FIXED = ("NONE", "BAD")
NUM = "num"


def consists_of(text, signs):
    """Whether each sign of a text is one of these."""
    return all([sign in signs for sign in text])


def is_name(text):
    return 1 <= len(text) <= 6 and text[0] in LOWER and consists_of(text, LOWER + DIGITS)


def is_numeral(text):
    if text.startswith("-"):
        return text != "-0" and is_number(text[1:], 9)
    return is_number(text, 9)


def is_number(text, most):
    """Whether a string is a number of so many digits at most, without leading zeros."""
    return 1 <= len(text) <= most and consists_of(text, DIGITS) and (text[0] != "0" or text == "0")


def is_capital(text):
    """Whether a string can be a word of a program, NONE and BAD not left out."""
    return 1 <= len(text) <= 6 and consists_of(text, UPPER)


def is_integer(value):
    """Whether any value is an integer; a bool is none."""
    return isinstance(value, int) and not isinstance(value, bool)


def is_flat(value):
    """Whether any value is a tuple of strings and integers, as each fact is."""
    return isinstance(value, tuple) and all([isinstance(part, str) or is_integer(part) for part in value])


def called_function(home, text):
    """The unit and the name of the function that a call in the unit home names."""
    unit, _, name = text.rpartition(".")
    return unit or home, name

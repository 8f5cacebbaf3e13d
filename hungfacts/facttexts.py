"""Facts and summaries as texts."""

from hungfacts.errors import BadFact, BadText
from hungfacts.forms import NUM, is_capital, is_integer, is_name, is_number
from hungfacts.summaries import summary

MOST_LINE = 999999999
PLACES = ("0", "1", "2")

# How the parts behind the first one are: n a name, l a line, p a place, x a name or a place, w a word,
# v a worth.
FACTS = {
    "at": "nl",
    "yes": "nl",
    "no": "nl",
    "holds": "nnxv",
    "keeps": "nnv",
    "called": "nn",
    "back": "nn",
    "gives": "nnv",
    "raises": "nnw",
    "needs": "nnx",
    "wants": "nn",
    "reads": "nn",
}
CONDITIONS = {
    "back": "nn",
    "gives": "nnv",
    "raises": "nnw",
    "needs": "nnp",
    "called": "nn",
    "wants": "nn",
    "holds": "nnpv",
    "unlike": "nnpv",
    "other": "nnv",
}
NO_OUTPUTS = ("unlike", "other")


def is_part(text, sign):
    """Whether a string has the form of a part, which is no line."""
    if sign == "n":
        return is_name(text)
    if sign == "p":
        return text in PLACES
    if sign == "x":
        return is_name(text) or text in PLACES
    return is_capital(text) or sign == "v" and text == NUM


def is_shown(part, sign):
    """Whether any value has the form of a part of a fact."""
    if sign == "l":
        return is_integer(part) and 1 <= part <= MOST_LINE
    return isinstance(part, str) and is_part(part, sign)


def show_fact(fact):
    """The text of a fact."""
    if not isinstance(fact, tuple) or not fact or not isinstance(fact[0], str):
        raise BadFact(fact)
    form = FACTS.get(fact[0])
    if form is None or len(fact) != len(form) + 1:
        raise BadFact(fact)
    if not all([is_shown(part, sign) for part, sign in zip(fact[1:], form)]):
        raise BadFact(fact)
    return " ".join([str(part) for part in fact])


def is_written(text, sign):
    """Whether a string is how a part is written."""
    if sign == "l":
        return is_number(text, 9) and text != "0"
    return is_part(text, sign)


def parts_read(words, form):
    """The tuple that these words write, if what stands behind the first one has this form; otherwise None."""
    if form is None or len(words) != len(form) + 1:
        return None
    if not all([is_written(word, sign) for word, sign in zip(words[1:], form)]):
        return None
    return tuple(words[:1] + [int(word) if sign == "l" else word for word, sign in zip(words[1:], form)])


def read_fact(text):
    """The fact with this text."""
    if not isinstance(text, str):
        raise BadText(0)
    words = text.split(" ")
    fact = parts_read(words, FACTS.get(words[0]))
    if fact is None:
        raise BadText(0)
    return fact


def show_summary(unit):
    """The text of the summary of a unit: a line for each output and each of its cases."""
    rows = []
    for output, cases in summary(unit):
        for case in cases:
            rows.append(" ".join(output) + " <- " + ", ".join([" ".join(condition) for condition in case]))
    return "\n".join(rows)


def condition_read(text):
    """The condition with this text, or None."""
    words = text.split(" ")
    return parts_read(words, CONDITIONS.get(words[0]))


def row_read(text):
    """The (output, case) that a line of a summary tells; None: it has not this form."""
    head, _, tail = text.partition(" <- ")
    output = condition_read(head)
    case = [condition_read(each) for each in tail.split(", ")]
    if output is None or output[0] in NO_OUTPUTS or None in case or case != sorted(set(case)):
        return None
    return (output, tuple(case))


def read_summary(text):
    """The summary with this text."""
    if not isinstance(text, str):
        raise BadText(0)
    found = []
    for at, line in enumerate(text.split("\n") if text else []):
        row = row_read(line)
        if row is None:
            raise BadText(at + 1)
        output, case = row
        if found and found[-1][0] == output and found[-1][1][-1] < case:
            found[-1][1].append(case)
        elif not found or found[-1][0] < output:
            found.append((output, [case]))
        else:
            raise BadText(at + 1)
    return tuple([(output, tuple(cases)) for output, cases in found])

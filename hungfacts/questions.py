"""Questions about the facts of a program, by which its units are made."""

from hungfacts.answers import answers_of
from hungfacts.errors import BadQuestion
from hungfacts.forms import is_integer

# Of each question how its parts behind the first one are: s a string, n an integer from 0.
FORMS = {
    "called": "ss",
    "reached": "sn",
    "needed": "sss",
    "wanted": "ss",
    "read": "ss",
    "only": "sss",
    "fails": "sn",
    "ways": "sn",
    "caught": "sn",
    "put": "sn",
    "body": "ss",
    "words": "ssn",
}


def has_form(value, sign):
    return isinstance(value, str) if sign == "s" else is_integer(value) and value >= 0


def is_question(value):
    """Whether any value is a question."""
    if not isinstance(value, tuple) or not value or not isinstance(value[0], str):
        return False
    form = FORMS.get(value[0])
    if form is None or len(value) != len(form) + 1:
        return False
    return all([has_form(part, sign) for part, sign in zip(value[1:], form)])


def answer(program, question, *, budget=0):
    """The answer of a question."""
    if not is_question(question):
        raise BadQuestion(question)
    return answers_of(program, budget).tell(question)

"""The answers of questions about a program.

Each function of the table here takes the Answers and the parts of a question behind its first one.
"""

from hungfacts.errors import BadBudget
from hungfacts.forms import NUM, called_function, is_integer, is_name, is_numeral
from hungfacts.memory import recalled
from hungfacts.sites import worths_of
from hungfacts.solving import known_facts

MOST_BUDGET = 99
# The fact about which a question asks that takes over all of its other parts.
FACTS = {"called": "called", "reached": "at", "needed": "needs", "wanted": "wants", "read": "reads"}
TESTS = ("if", "while")


def check_budget(value):
    if not is_integer(value) or not 0 <= value <= MOST_BUDGET:
        raise BadBudget(value)


def is_small(function):
    """Whether the body of a function may be put in in the place of its call."""
    if not function.shared or not 1 <= len(function.rows) <= 3 or function.rows[-1].words[0] != "give":
        return False
    ahead = [row.words for row in function.rows[:-1]]
    if not all([words[0] in ("let", "call", "show") for words in ahead]):
        return False
    return all(["." in words[2] for words in ahead if words[0] == "call"])


class Answers:
    """The answers of a program.

    known: its facts, as keys. functions: the Function of each (unit, name). lines: for each (unit, line)
    behind the first line of a function and ahead of its end this Function and the Row.
    """

    def __init__(self, program, budget):
        self.program = program
        self.known = known_facts(program)
        self.words = program.words
        self.functions = {}
        self.lines = {}
        for unit in program.units:
            for function in unit.functions:
                self.functions[(unit.name, function.name)] = function
                for row in function.rows:
                    self.lines[(unit.name, row.line)] = (function, row)
        self.put_in = {line: True for line in self.candidates()[:budget]}

    def candidates(self):
        """The calls of small functions that are reached, as (unit, line), ascending."""
        found = []
        for (home, line), (_, row) in self.lines.items():
            if row.words[0] == "call" and ("at", home, line) in self.known:
                if is_small(self.functions[called_function(home, row.words[2])]):
                    found.append((home, line))
        return sorted(found)

    def worths_held(self, home, function, spot):
        """The worths that a name of a function may have."""
        return [worth for worth in worths_of(self.words) if ("holds", home, function, spot, worth) in self.known]

    def row_of(self, home, line, heads):
        """The function and the row of a line that begins with one of these words, or None."""
        found = self.lines.get((home, line))
        return found if found is not None and found[1].words[0] in heads else None

    def is_statement(self, home, line):
        """Whether any two values are the unit and the line of a statement."""
        if not isinstance(home, str) or not is_integer(line):
            return False
        found = self.lines.get((home, line))
        return found is not None and found[1].block is None

    def is_so(self, question):
        return self.tell(question) == "yes"

    def tell(self, question):
        """The answer of a question that has one of the right forms."""
        parts = question[1:]
        if question[0] in FACTS:
            return said((FACTS[question[0]],) + parts in self.known)
        telling = TELLING[question[0]]
        return telling(self, parts)


def work_out_answers(program, budget):
    return Answers(program, budget)


def answers_of(program, budget):
    """The Answers of a program; raises BadBudget."""
    check_budget(budget)
    return recalled(program, work_out_answers, budget)


def said(true):
    return "yes" if true else "no"


def tell_only(answers, parts):
    home, function, spot = parts
    worths = answers.worths_held(home, function, spot)
    return worths[0] if len(worths) == 1 and worths[0] != NUM else "-"


def may_be_word(answers, home, function, operand):
    if is_name(operand):
        return answers.worths_held(home, function.name, function.spot(operand)) not in ([], [NUM])
    return not is_numeral(operand)


def tell_fails(answers, parts):
    home, line = parts
    found = answers.row_of(home, line, ("let", "set"))
    if found is None or len(found[1].words) != 5:
        return "-"
    function, row = found
    return said(any([may_be_word(answers, home, function, row.words[at]) for at in (2, 4)]))


def tell_ways(answers, parts):
    home, line = parts
    if answers.row_of(home, line, TESTS) is None:
        return "-"
    yes, no = ("yes", home, line) in answers.known, ("no", home, line) in answers.known
    return "both" if yes == no else said(yes)


def tell_caught(answers, parts):
    home, line = parts
    found = answers.row_of(home, line, ("try",))
    if found is None:
        return "-"
    return said(("at", home, found[1].middle + 1) in answers.known)


def tell_put(answers, parts):
    home, line = parts
    if answers.row_of(home, line, ("call",)) is None:
        return "-"
    return said(parts in answers.put_in)


def tell_body(answers, parts):
    function = answers.functions.get(parts)
    if function is None:
        return "-"
    return " ".join([str(function.line), *function.params] + [row.words[0] for row in function.own_rows()])


def tell_words(answers, parts):
    home, name, at = parts
    function = answers.functions.get((home, name))
    rows = function.own_rows() if function is not None else []
    return " ".join(rows[at].words) if at < len(rows) else "-"


TELLING = {
    "only": tell_only,
    "fails": tell_fails,
    "ways": tell_ways,
    "caught": tell_caught,
    "put": tell_put,
    "body": tell_body,
    "words": tell_words,
}

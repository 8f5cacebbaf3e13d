"""How a house comes from one program to another."""

from hungfacts.answers import answers_of, check_budget
from hungfacts.errors import OtherWords
from hungfacts.making import draft_of
from hungfacts.solving import facts, known_facts


def facts_without(program, other):
    """The ascending tuple of the facts of a program that are none of the other one."""
    known = known_facts(other)
    return tuple([fact for fact, _ in facts(program) if fact not in known])


def reason_of(elder, newer, name, budget):
    """Why a unit of the newer program was made anew; None: it was not."""
    if name not in elder.names:
        return ("new",)
    if elder.unit(name).text != newer.unit(name).text:
        return ("text",)
    answers = answers_of(newer, budget)
    for question, before in draft_of(elder, name, budget).asked:
        now = answers.tell(question)
        if now != before:
            return ("answer", question, before, now)
    return None


class Change:
    """What there is between an elder program and a newer one.

    came, fell: facts of just the newer one, and of just the elder one. anew: (name, reason) of the units
    that were made anew. kept, gone: the names of those that were not, and of those that are no more.
    """

    def __init__(self, elder, newer, *, budget=0):
        if elder.words != newer.words:
            raise OtherWords()
        check_budget(budget)
        self.elder = elder
        self.newer = newer
        self.came = facts_without(newer, elder)
        self.fell = facts_without(elder, newer)
        reasons = [(name, reason_of(elder, newer, name, budget)) for name in newer.names]
        self.anew = tuple([(name, reason) for name, reason in reasons if reason is not None])
        self.kept = tuple([name for name, reason in reasons if reason is None])
        self.gone = tuple([name for name in elder.names if name not in newer.names])

    def __eq__(self, other):
        if not isinstance(other, Change) or self.elder != other.elder or self.newer != other.newer:
            return False
        return self.anew == other.anew

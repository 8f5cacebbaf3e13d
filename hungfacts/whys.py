"""Why a unit was made anew: by a shortest chain of facts, by other calls, or by another text."""

from hungfacts.answers import FACTS, answers_of
from hungfacts.clauses import clauses
from hungfacts.errors import NotAnew
from hungfacts.forms import is_flat, is_name
from hungfacts.sites import worths_of
from hungfacts.solving import clause_keys, known_facts


def grounds_of(program, question):
    """The facts on which the answer of a question hangs; it is none of put, body and words."""
    kind, parts = question[0], question[1:]
    if kind in FACTS:
        return [(FACTS[kind], *parts)]
    if kind == "only":
        return [("holds", *parts, worth) for worth in worths_of(program.words)]
    if kind == "ways":
        return [("no", *parts), ("yes", *parts)]
    home, line = parts
    function, row = answers_of(program, 0).lines[parts]
    if kind == "caught":
        return [("at", home, row.middle + 1)]
    names = [operand for operand in (row.words[2], row.words[4]) if is_name(operand)]
    words = worths_of(program.words)[:-1]
    return [("holds", home, function.name, function.spot(name), word) for name in names for word in words]


class Chains:
    """All chains of facts that came from an elder program to a newer one, up to one of them, the turn.

    starts: the facts, as keys, with which a chain may begin. behind_of, ahead_of: for a fact those that may
    stand next to it. many: for each fact with a way to the turn how many facts the shortest one has.
    """

    def __init__(self, elder, newer, came, turn):
        self.came = {fact: True for fact in came}
        self.turn = turn
        self.starts = {}
        self.behind_of = {}
        self.ahead_of = {}
        self._take(clause_keys(elder), clauses(newer), known_facts(newer))
        self.many = self._counted()

    def _take(self, before, found, known):
        for clause in found:
            fact, premises = clause
            if fact not in self.came or not all([premise in known for premise in premises]):
                continue
            if clause not in before:
                self.starts[fact] = True
            for premise in premises:
                if premise in self.came:
                    self.behind_of.setdefault(premise, []).append(fact)
                    self.ahead_of.setdefault(fact, []).append(premise)

    def _counted(self):
        many = {self.turn: 1}
        waiting = [self.turn]
        while waiting:
            fresh = []
            for fact in waiting:
                for premise in self.ahead_of.get(fact, ()):
                    if premise not in many:
                        many[premise] = many[fact] + 1
                        fresh.append(premise)
            waiting = fresh
        return many

    def fewest(self):
        """How many facts a shortest chain has."""
        return min([self.many[fact] for fact in self.starts if fact in self.many])

    def least(self):
        """The least of the shortest chains."""
        left = self.fewest()
        found = [min([fact for fact in self.starts if self.many.get(fact) == left])]
        while left > 1:
            left -= 1
            found.append(min([fact for fact in self.behind_of[found[-1]] if self.many.get(fact) == left]))
        return tuple(found)

    def is_shortest(self, value):
        """Whether any value is one of the shortest chains."""
        if not isinstance(value, tuple) or len(value) != self.fewest() or not all([is_flat(fact) for fact in value]):
            return False
        if value[0] not in self.starts or value[-1] != self.turn:
            return False
        return all([value[at] in self.behind_of.get(value[at - 1], ()) for at in range(1, len(value))])


def question_of(change, name):
    """The question by whose answer a unit was made anew; raises NotAnew."""
    reasons = [reason for each, reason in change.anew if each == name]
    if not reasons or reasons[0][0] != "answer":
        raise NotAnew(name)
    return reasons[0][1]


def without_chain(change, question):
    """What why returns for a question without grounds."""
    if question[0] != "put":
        return ("text", question[1])
    before = answers_of(change.elder, 0).candidates()
    now = answers_of(change.newer, 0).candidates()
    fell = tuple([call for call in before if call not in now])
    return ("calls", fell, tuple([call for call in now if call not in before]))


def has_grounds(question):
    return question[0] not in ("put", "body", "words")


def chains_of(change, question):
    """The chains that lead to the turn of a question with grounds."""
    grounds = grounds_of(change.elder, question)
    turn = min([fact for fact in grounds if fact in change.came or fact in change.fell])
    if turn in change.came:
        return Chains(change.elder, change.newer, change.came, turn)
    return Chains(change.newer, change.elder, change.fell, turn)


def why(change, name):
    """Why a unit was made anew by an answer: ("facts", chain), ("calls", before, now) or ("text", unit)."""
    question = question_of(change, name)
    if has_grounds(question):
        return ("facts", chains_of(change, question).least())
    return without_chain(change, question)


def shows_why(change, name, value):
    """Whether any value is what why may return, with any of the shortest chains."""
    question = question_of(change, name)
    if not has_grounds(question):
        return value == without_chain(change, question)
    if not isinstance(value, tuple) or len(value) != 2 or value[0] != "facts":
        return False
    return chains_of(change, question).is_shortest(value[1])

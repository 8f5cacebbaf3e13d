"""All least cases that lead to an output."""

from hungfacts.clauses import unit_clauses
from hungfacts.deriving import watched
from hungfacts.diagrams import ALWAYS, NEVER, Diagrams
from hungfacts.groups import groups_of
from hungfacts.parts import Choice


class Cases:
    """Finds the least cases of the outputs of a unit."""

    def __init__(self, unit):
        self.diagrams = Diagrams()
        groups = groups_of(unit)
        self.group_at = [group for group in groups for _ in group.inputs]
        self.functions = {}
        for group in groups:
            for at, fact in enumerate(group.inputs):
                self.functions[fact] = self.diagrams.needing(group.first + at)
        self._solve(unit_clauses(unit))
        self.known = {}
        self.known_parts = {}

    def _solve(self, found):
        """Find of each fact the function of inputs that tells whether it holds."""
        behind = watched(found)
        waiting = {at: True for at in range(len(found))}
        while waiting:
            turn = list(waiting)
            waiting = {}
            for at in turn:
                fact = found[at][0]
                if self._take(fact, found[at][1]):
                    for each in behind.get(fact, []):
                        waiting[each] = True

    def _take(self, fact, premises):
        """Take what a clause adds to the function of its fact, and tell whether that is anything."""
        added = ALWAYS
        for premise in premises:
            added = self.diagrams.both(added, self.functions.get(premise, NEVER))
        before = self.functions.get(fact, NEVER)
        self.functions[fact] = self.diagrams.either(before, added)
        return self.functions[fact] != before

    def of(self, fact):
        """The least cases that lead to a fact, in any order, their conditions too."""
        return self._of_node(self.functions.get(fact, NEVER))

    def _of_node(self, node):
        if node == NEVER:
            return []
        if node == ALWAYS:
            return [()]
        if node not in self.known:
            self.known[node] = self._found(node, self.group_at[self.diagrams.levels[node]])
        return self.known[node]

    def _found(self, node, group):
        """The cases without any condition of the group, and those with some."""
        closed = self._of_node(self.diagrams.given(node, group.last, ()))
        known = {case: True for case in closed}
        found = list(closed)
        opened = self.diagrams.given(node, group.first, (group.first,))
        for own, others in self._of_parts(opened, group, 0):
            if own:
                found.append(own + others)
            elif others not in known:
                found.append((group.opener,) + others)
        return found

    def _of_parts(self, node, group, at):
        """The cases with the opener: what they have of the parts from this one on, and of later groups."""
        if at == len(group.parts) or self.diagrams.levels[node] > group.last:
            return [((), case) for case in self._of_node(node)]
        key = (node, group.first, at)
        if key not in self.known_parts:
            self.known_parts[key] = self._found_parts(node, group, at)
        return self.known_parts[key]

    def _found_parts(self, node, group, at):
        part = group.parts[at]
        left = []
        found = []
        for choice in self._choices(node, part):
            left.append(self._with_choice(node, part, choice))
            if left[-1] == NEVER or any([left[each] == left[-1] for each in choice.weaker]):
                continue
            known = {}
            for each in choice.weaker:
                for pair in self._of_parts(left[each], group, at + 1):
                    known[pair] = True
            for own, others in self._of_parts(left[-1], group, at + 1):
                if (own, others) not in known:
                    found.append((choice.conditions + own, others))
        return found

    def _choices(self, node, part):
        """The choices of a part that may tell anything apart."""
        asked = self.diagrams.levels_asked(node, part.last)
        if part.but and all([level in asked for level in part.levels]):
            # Where it does not matter which inputs of a slot are there, none needs to be asked for.
            every = self.diagrams.given(node, part.last, part.levels)
            if all([self.diagrams.given(node, part.last, (level,)) == every for level in part.levels]):
                return [Choice((), [part.levels], [])]
        return part.choices(asked)

    def _with_choice(self, node, part, choice):
        """What is left of a function if a part is met in any of the least ways of a choice."""
        found = ALWAYS
        for present in choice.ways:
            found = self.diagrams.both(found, self.diagrams.given(node, part.last, present))
        return found

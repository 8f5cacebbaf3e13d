"""What the lines of a unit that were read tell of the line that comes next."""

from hungfacts.forms import FIXED, called_function, is_name, is_numeral
from hungfacts.rows import Function, Row


class Ahead:
    """The part of a unit that was read.

    function: the one that is not closed yet, or None.
    blocks: the rows of its statements that are not closed yet, the innermost one last.
    scopes: for each of its parts that is not closed yet, the names declared in it.
    asked: the calls of functions of other units, with their numbers of operands.
    """

    def __init__(self, words):
        self.words = words + FIXED
        self.name = ""
        self.cells = {}
        self.functions = {}
        self.function = None
        self.blocks = []
        self.scopes = []
        self.asked = {}

    def is_free(self, name, scopes):
        """Whether a name may be declared where these scopes are open."""
        return is_name(name) and name not in self.cells and not any([name in scope for scope in scopes])

    def is_in_scope(self, name):
        return any([name in scope for scope in self.scopes])

    def is_operand(self, text):
        return text in self.words or is_numeral(text) or self.is_in_scope(text)

    def block_without_second(self, word):
        """Whether the innermost block begins with this word and has come to no second part."""
        return bool(self.blocks) and self.blocks[-1].words[0] == word and not self.blocks[-1].middle

    def take_cell(self, name, word):
        self.cells[name] = word

    def take_function(self, line, words):
        self.function = Function(line, words)
        self.functions[self.function.name] = self.function
        self.scopes = [list(self.function.params)]

    def take_end(self, line):
        """Take the end of the function that is open."""
        self.function.last = line
        self.function = None
        self.scopes = []

    def take_row(self, line, words):
        """Take a line within a function that may stand there."""
        row = Row(line, words, tuple(sorted([name for scope in self.scopes for name in scope])))
        if words[0] in ("else", "catch", "end"):
            self._close_part(row)
        elif words[0] in ("if", "while", "try", "do"):
            self.blocks.append(row)
            self.scopes.append([])
        if words[0] in ("let", "call", "get", "catch"):
            self.scopes[-1].append(words[1])
        if words[0] == "call":
            self._take_call(words)
        self.function.rows.append(row)

    def _close_part(self, row):
        block = self.blocks[-1]
        row.block = block
        self.scopes.pop()
        if row.words[0] == "end":
            block.last = row.line
            self.blocks.pop()
            return
        block.middle = row.line
        self.scopes.append([])
        if row.words[0] == "catch":
            self._guard_part(block, row)

    def _guard_part(self, block, catch):
        # Inner tries were closed earlier: their first parts have their guards already.
        for row in self.function.rows:
            if row.line > block.line and row.guard is None:
                row.guard = catch

    def _take_call(self, words):
        called = called_function(self.name, words[2])
        if called[0] != self.name:
            self.asked[called] = len(words) - 3

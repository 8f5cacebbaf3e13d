"""What is known of a function of a unit and of the lines in it."""


class Row:
    """A statement of a function, or a line that closes one of its parts.

    middle: of a statement with a second part, the line of its else or catch, otherwise 0.
    last: the line of the end of a statement with parts, otherwise the line itself.
    block: of a line that closes a part, the row of the statement, otherwise None.
    guard: the row of the catch to which a fault at this line goes; None: it leaves the function.
    scope: the names in scope at a statement, ascending.
    """

    def __init__(self, line, words, scope):
        self.line = line
        self.words = words
        self.scope = scope
        self.middle = 0
        self.last = line
        self.block = None
        self.guard = None


class Function:
    """A function by the words of its first line; its own end is none of its rows."""

    def __init__(self, line, words):
        self.line = line
        self.last = line
        self.shared = words[0] == "open"
        self.name = words[1]
        self.params = words[2:]
        self.rows = []

    def row_at(self, line):
        """The row of a line behind the first one and ahead of its end."""
        return self.rows[line - self.line - 1]

    def own_rows(self):
        """The statements of its own part, those within them left out."""
        found = []
        line = self.line + 1
        while line < self.last:
            row = self.row_at(line)
            found.append(row)
            line = row.last + 1
        return found

    def spot(self, name):
        """How facts name it: a parameter by its place, any other name by itself."""
        if name in self.params:
            return str(self.params.index(name))
        return name

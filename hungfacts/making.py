"""Making units: shorter ones that mean the same, by the facts of their program."""

from hungfacts.answers import answers_of, check_budget
from hungfacts.bodies import put_in
from hungfacts.memory import recalled
from hungfacts.writing import Asking, View, Writer


class Made:
    """A made unit.

    text: its lines. origins: for each line the places in the sources from which it was made. asked:
    the (question, answer) by which it was made, in the order of asking.
    """

    def __init__(self, text, origins, asked):
        self.text = text
        self.origins = origins
        self.asked = asked

    def __eq__(self, other):
        return (isinstance(other, Made) and self.text == other.text and self.origins == other.origins
                and self.asked == other.asked)


class Maker:
    """Goes through a function of a unit and writes what is left of it."""

    def __init__(self, writer, source, function):
        self.writer = writer
        self.asking = writer.asking
        self.source = source
        self.function = function
        self.view = View(source.name, function.name, function.params, (), None)

    def about(self, kind, row):
        """The question of this kind about a line."""
        return (kind, self.source.name, row.line)

    def operand(self, text):
        return self.writer.operand(self.view, text)

    def write(self, words, line):
        self.writer.write(words, self.view.origin(line))

    def write_as_it_is(self, line):
        self.write(self.source.lines[line - 1].split(" "), line)

    def go_through(self):
        if not self.asking.is_so(("called", self.source.name, self.function.name)):
            return
        self.writer.begin()
        self.writer.use([name for name, _ in self.source.cells])
        for line in self.source.lines[self.function.line - 1:self.function.last]:
            self.writer.use(line.split(" "))
        self.write_as_it_is(self.function.line)
        self.part(self.function.line + 1, self.function.last)
        self.write_as_it_is(self.function.last)

    def part(self, line, closing):
        """Go through the statements from a line up to the one that closes their part."""
        while line < closing:
            row = self.function.row_at(line)
            if self.asking.is_so(self.about("reached", row)):
                action = STATEMENTS[row.words[0]]
                action(self, row)
            line = row.last + 1

    def first_part(self, row):
        self.part(row.line + 1, row.middle or row.last)

    def second_part(self, row):
        if row.middle:
            self.part(row.middle + 1, row.last)

    def whole(self, row, words):
        """Write a statement with all its lines, the first one with these words."""
        self.write(words, row.line)
        self.first_part(row)
        if row.middle:
            self.write_as_it_is(row.middle)
            self.second_part(row)
        self.write_as_it_is(row.last)

    def in_do(self, row, second):
        """Write what is left of the first or second part between do and end, if anything is left."""
        rows = self.writer.rows
        ahead = len(rows)
        if second:
            self.second_part(row)
        else:
            self.first_part(row)
        if len(rows) > ahead:
            rows.insert(ahead, ("do", self.view.origin(row.line)))
            self.write_as_it_is(row.last)


def make_let(maker, row):
    maker.writer.write_let(maker.view, row.words, row.line)


def make_call(maker, row):
    if maker.asking.is_so(maker.about("put", row)):
        put_in(maker.writer, maker.view, row.words, row.line)
    else:
        maker.writer.write_call(maker.view, row.words, row.line)


def make_get(maker, row):
    if maker.asking.is_so(maker.view.about("needed", row.words[1])):
        maker.write_as_it_is(row.line)


def make_keep(maker, row):
    if maker.asking.is_so(("read", maker.source.name, row.words[1])):
        maker.write(["keep", row.words[1], maker.operand(row.words[2])], row.line)


def make_show(maker, row):
    maker.writer.write_show(maker.view, row.words, row.line)


def make_give(maker, row):
    wanted = maker.asking.is_so(("wanted", maker.source.name, maker.function.name))
    maker.write(["give", maker.operand(row.words[1]) if wanted else "NONE"], row.line)


def tested(maker, row):
    """The words of a test, with the operands that stand there."""
    word, one, sign, other = row.words
    return [word, maker.operand(one), sign, maker.operand(other) if sign == "<" else other]


def make_if(maker, row):
    ways = maker.asking.ask(maker.about("ways", row)) if row.words[2] == "is" else "both"
    if ways == "both":
        maker.whole(row, tested(maker, row))
    else:
        maker.in_do(row, ways == "no")


def make_while(maker, row):
    if row.words[2] == "is" and maker.asking.ask(maker.about("ways", row)) == "no":
        return
    maker.whole(row, tested(maker, row))


def make_try(maker, row):
    if maker.asking.is_so(maker.about("caught", row)):
        maker.whole(row, ["try"])
    else:
        maker.in_do(row, False)


def make_do(maker, row):
    maker.in_do(row, False)


STATEMENTS = {
    "let": make_let,
    "set": make_let,
    "call": make_call,
    "get": make_get,
    "keep": make_keep,
    "show": make_show,
    "give": make_give,
    "raise": make_show,
    "if": make_if,
    "while": make_while,
    "try": make_try,
    "do": make_do,
}


class Draft:
    """What a made unit is made of: its text, the origins and questions of a Made, and how names were called.

    renamed: for the line of each call whose function was put in, the names that stand in the place of
    those of this function.
    """

    def __init__(self, writer):
        self.text = "\n".join([text for text, _ in writer.rows])
        self.origins = tuple([origin for _, origin in writer.rows])
        self.asked = tuple(list(writer.asking.log.items()))
        self.renamed = writer.renamed


def work_out_draft(program, name, budget):
    unit = program.unit(name)
    asking = Asking(answers_of(program, budget))
    writer = Writer(asking)
    writer.write(["unit", unit.name], ((unit.name, 1),))
    for at, (cell, word) in enumerate(unit.cells):
        if asking.is_so(("read", unit.name, cell)):
            writer.write(["cell", cell, word], ((unit.name, 2 + at),))
    for function in unit.functions:
        Maker(writer, unit, function).go_through()
    return Draft(writer)


def draft_of(program, name, budget):
    """The Draft of the unit of this name."""
    return recalled(program, work_out_draft, name, budget)


def made(program, name, *, budget=0):
    """The Made of the unit of this name."""
    unit = program.unit(name)
    check_budget(budget)
    draft = draft_of(program, unit.name, budget)
    return Made(draft.text, draft.origins, draft.asked)

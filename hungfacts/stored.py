"""Houses as texts."""

from hungfacts.errors import BadBudget, BadRoots, BadStored, BadText, BadUnit, BadUnits, BadWords, NoFunction
from hungfacts.forms import is_capital, is_name, is_number
from hungfacts.house import House
from hungfacts.programs import Program
from hungfacts.units import Unit


def made_rows(made):
    return made.text.split("\n")


def asked_rows(made):
    """The rows that tell what a made unit asked: QUESTION = ANSWER."""
    return [" ".join([str(part) for part in question]) + " = " + answer for question, answer in made.asked]


def block(head, name, rows):
    return [head + " " + name + " " + str(len(rows))] + rows


def stored(house):
    """The text of a house."""
    rows = [" ".join(("words",) + house.program.words), "budget " + str(house.budget)]
    rows += [" ".join(("root",) + root) for root in house.program.roots]
    for unit in house.program.units:
        made = house.made(unit.name)
        rows += block("source", unit.name, list(unit.lines))
        rows += block("made", unit.name, made_rows(made))
        rows += block("asked", unit.name, asked_rows(made))
    return "\n".join(rows)


class Reader:
    """Reads the rows of a stored house.

    line: how many rows are read. units: (name, source, made, asked), the last three being rows.
    """

    def __init__(self, text):
        self.rows = text.split("\n")
        self.line = 0
        self.words = ()
        self.budget = 0
        self.roots = []
        self.units = []

    def head(self):
        """The words of the next row, which must be there."""
        if self.line == len(self.rows):
            raise BadText(self.line + 1)
        return self.rows[self.line].split(" ")

    def take(self, right):
        """Go on behind the next row, if it is right."""
        if not right:
            raise BadText(self.line + 1)
        self.line += 1

    def read(self):
        words = self.head()
        self.take(words[0] == "words" and len(words) > 1 and all([is_capital(word) for word in words[1:]]))
        self.words = tuple(words[1:])
        words = self.head()
        self.take(words[0] == "budget" and len(words) == 2 and is_number(words[1], 9))
        self.budget = int(words[1])
        while self.head()[0] == "root":
            words = self.head()
            self.take(len(words) == 3 and is_name(words[1]) and is_name(words[2]))
            self.roots.append((words[1], words[2]))
        # Here is a row that is no root, so there is one unit at least.
        while self.line < len(self.rows):
            self.read_unit()

    def read_unit(self):
        name = self.head()[1] if len(self.head()) > 1 else ""
        ahead = self.units[-1][0] if self.units else ""
        if not ahead < name:
            raise BadText(self.line + 1)
        source = self.read_block("source", name)
        made = self.read_block("made", name)
        self.units.append((name, source, made, self.read_block("asked", name)))

    def read_block(self, word, name):
        """The rows of the next block, which must have this head."""
        words = self.head()
        self.take(len(words) == 3 and words[:2] == [word, name] and is_name(name) and is_number(words[2], 9))
        first = self.line
        self.line += int(words[2])
        if self.line > len(self.rows):
            raise BadText(len(self.rows) + 1)
        return self.rows[first:self.line]


def house_of(reader):
    """The house that was read, None if its sources are none of a program."""
    try:
        units = tuple([Unit(reader.words, "\n".join(source)) for _, source, _, _ in reader.units])
        program = Program(units, tuple(reader.roots))
        house = House(program, budget=reader.budget)
    except (BadWords, BadUnit, BadUnits, BadRoots, NoFunction, BadBudget):
        return None
    return house if [unit.name for unit in units] == [row[0] for row in reader.units] else None


def read_house(text):
    """The house of a text."""
    if not isinstance(text, str):
        raise BadText(0)
    reader = Reader(text)
    reader.read()
    house = house_of(reader)
    if house is None:
        raise BadStored(("program",))
    for name, _, made, asked in reader.units:
        if made != made_rows(house.made(name)):
            raise BadStored(("made", name))
        if asked != asked_rows(house.made(name)):
            raise BadStored(("asked", name))
    return house

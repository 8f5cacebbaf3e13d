"""A desk: a house, asked and edited by lines."""

from hungfacts.errors import BadLine
from hungfacts.facttexts import read_fact, show_fact
from hungfacts.forms import is_capital, is_number, is_numeral
from hungfacts.parting import alike
from hungfacts.solving import known_facts, way
from hungfacts.stored import read_house
from hungfacts.units import Unit
from hungfacts.whys import why

MOST_GOES = 500


def spread(words):
    """The text of a unit that was written in one line."""
    return " ".join(words).replace(" / ", "\n")


def in_one_line(text):
    return text.replace("\n", " / ")


def words_or_dash(words):
    return " ".join(words) if words else "-"


def values_of(words):
    return tuple([int(word) if is_numeral(word) else word for word in words])


def places_told(places):
    return " ".join([home + ":" + str(line) for home, line in places])


def outcome_told(outcome):
    """What came of a run, with what it has shown behind it."""
    if outcome[0] == "tired":
        return "tired"
    told = outcome[0] + " " + str(outcome[1])
    if outcome[0] == "raised":
        told = told + " " + places_told(outcome[2])
    shown = outcome[-1]
    return told + ";" + "".join([" " + str(value) for value in shown]) if shown else told


def facts_told(facts):
    return "; ".join([show_fact(fact) for fact in facts])


def changed(desk, change):
    """Keep the last change of a desk, and tell what was made anew."""
    desk.change = change
    return words_or_dash([name for name, _ in change.anew])


def say_put(desk, words):
    return changed(desk, desk.house.edit((spread(words),)))


def say_drop(desk, words):
    return changed(desk, desk.house.edit((), drops=(words[0],)))


def say_undo(desk, _words):
    return changed(desk, desk.house.undo())


def say_redo(desk, _words):
    return changed(desk, desk.house.redo())


def say_run(desk, words):
    return outcome_told(desk.house.run((words[0], words[1]), values_of(words[2:]), MOST_GOES))


def say_is(desk, words):
    fact = read_fact(" ".join(words))
    known = known_facts(desk.house.program)
    return "yes " + str(known[fact][0]) if fact in known else "no"


def say_way(desk, words):
    found = way(desk.house.program, read_fact(" ".join(words)))
    return "-" if found is None else facts_told([fact for fact, _ in found])


def say_made(desk, words):
    return in_one_line(desk.house.made(words[0]).text)


def say_origin(desk, words):
    origins = desk.house.made(words[0]).origins
    line = int(words[1])
    return places_told(origins[line - 1]) if 1 <= line <= len(origins) else None


def say_why(desk, words):
    name = desk.house.program.unit(words[0]).name
    reasons = dict(desk.change.anew) if desk.change is not None else {}
    if name not in reasons:
        return "-"
    if reasons[name][0] != "answer":
        return reasons[name][0]
    found = why(desk.change, name)
    if found[0] == "facts":
        return facts_told(found[1])
    return "calls" if found[0] == "calls" else "text " + found[1]


def say_alike(desk, words):
    unit = desk.house.program.unit(words[0])
    return "yes" if alike(unit, Unit(unit.words, spread(words[1:]))) else "no"


def say_times(desk, words):
    return str(desk.house.times(words[0]))


def say_start(desk, words):
    return str(desk.house.start((words[0], words[1]), values_of(words[2:])))


def stand_told(stepper):
    """Where a run stands, or what came of it."""
    return outcome_told(stepper.outcome) if stepper.outcome is not None else places_told(stepper.places)


def say_step(desk, words):
    stepper = desk.house.stepper(int(words[0]))
    stepper.step()
    return stand_told(stepper)


def say_back(desk, words):
    stepper = desk.house.stepper(int(words[0]))
    stepper.back()
    return stand_told(stepper)


def say_value(desk, words):
    told = desk.house.stepper(int(words[0])).told(words[1])
    return str(told[-1])


def say_behind(desk, _words):
    return words_or_dash([str(number) for number, _ in desk.house.behind()])


# Of each line what stands behind its first word: w a word, n a number, + one word or more, * any values.
SHAPES = {
    "put": "+",
    "drop": "w",
    "undo": "",
    "redo": "",
    "run": "ww*",
    "is": "+",
    "way": "+",
    "made": "w",
    "origin": "wn",
    "why": "w",
    "alike": "w+",
    "times": "w",
    "start": "ww*",
    "step": "n",
    "back": "n",
    "value": "nw",
    "behind": "",
}
SAYING = {
    "put": say_put,
    "drop": say_drop,
    "undo": say_undo,
    "redo": say_redo,
    "run": say_run,
    "is": say_is,
    "way": say_way,
    "made": say_made,
    "origin": say_origin,
    "why": say_why,
    "alike": say_alike,
    "times": say_times,
    "start": say_start,
    "step": say_step,
    "back": say_back,
    "value": say_value,
    "behind": say_behind,
}


def has_shape(words, shape):
    """Whether what stands behind the first word of a line has its shape."""
    fixed = shape.replace("+", "").replace("*", "")
    if len(words) < len(fixed) or not all([is_number(word, 4) for word, sign in zip(words, fixed) if sign == "n"]):
        return False
    rest = words[len(fixed):]
    if shape.endswith("+"):
        return len(rest) > 0
    if shape.endswith("*"):
        return all([is_capital(word) or is_numeral(word) for word in rest])
    return len(rest) == 0


def is_line(value):
    """Whether any value is a line that a desk takes."""
    if not isinstance(value, str) or "\n" in value:
        return False
    words = value.split(" ")
    shape = SHAPES.get(words[0])
    return shape is not None and "" not in words and has_shape(words[1:], shape)


class Desk:
    """A desk with a house; change is the last one that a line of the desk has made, None if there was none."""

    def __init__(self, text):
        self.house = read_house(text)
        self.change = None

    def say(self, line):
        """What is answered to a line."""
        if not is_line(line):
            raise BadLine(line)
        words = line.split(" ")
        action = SAYING[words[0]]
        told = action(self, words[1:])
        if told is None:
            # The line of a made unit that it asks for is not there.
            raise BadLine(line)
        return told

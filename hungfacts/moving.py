"""Going on with a run in an edited program."""

from hungfacts.going import Frame, worth_of
from hungfacts.moments import going_on, settled
from hungfacts.runs import cells_of
from hungfacts.sights import GONE, sights, told_cells, worths_known


def text_of(program, home, function):
    """The lines of a function, from its first one to its end."""
    return program.unit(home).lines[function.line - 1:function.last]


def moved_line(sight, answers):
    """The line of a place in the program of other answers; None: its function is not there, or is another one."""
    function = answers.functions.get((sight.home, sight.function.name))
    if function is None:
        return None
    before = text_of(sight.answers.program, sight.home, sight.function)
    if text_of(answers.program, sight.home, function) != before:
        return None
    return sight.line - sight.function.line + function.line


def facts_of(answers, kind, about, told):
    """The facts of what a name or a cell has, or of all that it may have by these answers."""
    worths = worths_known(answers, kind, about) if told == GONE else [worth_of(told[1])]
    return [(kind, *about, worth) for worth in worths]


def facts_of_places(found, lines):
    """The facts that a newer program must have for places that come to these lines."""
    needed = [("at", sight.home, line) for sight, line in zip(found, lines)]
    for sight in found:
        for name, told in sight.told_names():
            needed += facts_of(sight.answers, "holds", sight.about(name), told)
    return needed


def names_missed(found, answers):
    """What is gone of the names of places, though it may be asked for in a newer program."""
    missed = []
    for sight in found:
        for name, told in sight.told_names():
            about = sight.about(name)
            if told == GONE and answers.is_so(("needed", *about)) and answers.tell(("only", *about)) == "-":
                missed.append(("gone", sight.home, sight.function.name, name))
    return sorted(set(missed))


def cells_missed(cells, answers):
    """What is gone of some cells, given as (unit, cell, told), though it may be asked for in a newer program."""
    return [("gone", home, cell) for home, cell, told in cells if told == GONE and answers.is_so(("read", home, cell))]


def bars(moment, answers):
    """What stands against going on by the program of these answers."""
    found = sights(moment.works, moment.frame)
    lines = [moved_line(sight, answers) for sight in found]
    if None in lines:
        return tuple([("lines", sight.home, sight.line) for sight, line in zip(found, lines) if line is None])
    root = (found[-1].home, found[-1].function.name)
    barred = [] if root in answers.program.roots else [("root", *root)]
    kept = cells_of(answers.program)
    cells = [row for row in told_cells(moment.works, moment.cells) if row[:2] in kept]
    needed = facts_of_places(found, lines)
    for home, cell, told in cells:
        needed += facts_of(moment.works.answers, "keeps", (home, cell), told)
    barred += [("fact", fact) for fact in sorted(set(needed)) if fact not in answers.known]
    return tuple(barred + names_missed(found, answers) + cells_missed(cells, answers))


def values_told(sight):
    """The values of the names here of which any is told."""
    return {name: told[1] for name, told in sight.told_names() if told != GONE}


def with_body(works, frame, call, line, values):
    """A frame that stands at a line of the body that was put in for a call, these being the names' values there."""
    names = dict(frame.names)
    for name, other in works.renamed[call].items():
        if name in values:
            names[other] = values[name]
    line = works.line_from(frame.home, frame.function, (call[1], line))
    return Frame(frame.home, frame.function, line, names, frame.outer)


def moved_frame(found, lines, works):
    """The innermost frame, in these made units, of places that come to these lines.

    It stands at the first line that is made from the innermost one of the places, or from what is behind.
    """
    frame = None
    # The call in the place ahead, if the function of the next place is put in there.
    call = None
    for sight, line in reversed(list(zip(found, lines))):
        values = values_told(sight)
        if call is not None:
            frame = with_body(works, frame, call, line, values)
            call = None
            continue
        function = works.functions[(sight.home, sight.function.name)]
        frame = Frame(sight.home, function, works.line_from(sight.home, function, (line, 0)), values, frame)
        if (sight.home, line) in works.renamed:
            call = (sight.home, line)
    return frame


def moved_cells(moment, works):
    """The values of the cells of these made units; those that the elder program does not have begin anew."""
    cells = {each: works.cells[each] for each in works.cells}
    for home, cell, told in told_cells(moment.works, moment.cells):
        # What is gone is not read by the newer program: that would stand against the move.
        if (home, cell) in cells:
            cells[(home, cell)] = told[1]
    return cells


def moved_moment(moment, works, shown):
    """The moment behind a move to these made units, against which nothing stands."""
    found = sights(moment.works, moment.frame)
    lines = [moved_line(sight, works.answers) for sight in found]
    going = going_on(works, moved_frame(found, lines, works), moved_cells(moment, works), shown)
    return settled(works, going, moment.done, moment)

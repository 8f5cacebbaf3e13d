"""The clauses of units and programs."""

from hungfacts.forms import NUM, called_function
from hungfacts.memory import recalled
from hungfacts.sites import Site, worths_of


def of_let(site):
    """The clauses of let and set."""
    words = site.row.words
    if len(words) == 5:
        return of_sum(site, words[1], (words[2], words[4]))
    name, operand = words[1], words[2]
    found = [(site.holds(name, worth), premises) for worth, premises in site.cases(operand)]
    found.append(site.goes_on([site.here]))
    return found + site.matters([operand], [site.here, site.needs(name)])


def of_sum(site, name, operands):
    found = site.matters(operands, [site.here, site.needs(name)])
    for premises in site.both_numbers(operands[0], operands[1]):
        found.append((site.holds(name, NUM), premises))
        found.append(site.goes_on(premises))
    for premises in site.some_word(operands[0], operands[1]):
        found += site.faults("BAD", premises) + site.matters(operands, premises)
    return found


def of_call(site):
    words, here = site.row.words, site.here
    name, called = words[1], called_function(site.home, words[2])
    found = [(("called", *called), [here]), (("wants", *called), [here, site.needs(name)])]
    found.append(site.goes_on([here, ("back", *called)]))
    for worth in site.worths:
        found.append((site.holds(name, worth), [here, ("gives", *called, worth)]))
    for word in site.capitals:
        found += site.faults(word, [here, ("raises", *called, word)])
    for at, operand in enumerate(words[3:]):
        found += of_passed(site, operand, (*called, str(at)))
    return found


def of_passed(site, operand, place):
    """The clauses of an operand that a call passes to this place of a function."""
    found = [(("holds", *place, worth), premises) for worth, premises in site.cases(operand)]
    return found + site.matters([operand], [site.here, ("needs", *place)])


def of_get(site):
    name, cell = site.row.words[1], site.row.words[2]
    found = [(("reads", site.home, cell), [site.here, site.needs(name)]), site.goes_on([site.here])]
    for worth in site.worths:
        found.append((site.holds(name, worth), [site.here, ("keeps", site.home, cell, worth)]))
    return found


def of_keep(site):
    cell, operand = site.row.words[1], site.row.words[2]
    found = [(("keeps", site.home, cell, worth), premises) for worth, premises in site.cases(operand)]
    found.append(site.goes_on([site.here]))
    return found + site.matters([operand], [site.here, ("reads", site.home, cell)])


def of_show(site):
    return [site.goes_on([site.here])] + site.matters([site.row.words[1]], [site.here])


def of_give(site):
    operand, giver = site.row.words[1], (site.home, site.function.name)
    found = [(("gives", *giver, worth), premises) for worth, premises in site.cases(operand)]
    return found + site.matters([operand], [site.here, ("wants", *giver)])


def of_raise(site):
    operand = site.row.words[1]
    found = site.matters([operand], [site.here])
    for worth, premises in site.cases(operand):
        found += site.faults("BAD" if worth == NUM else worth, premises)
    return found


def of_test(site):
    """The clauses of the test of an if or while."""
    one, sign, other = site.row.words[1:]
    if sign == "is":
        return of_is(site, one, other)
    found = site.matters([one, other], [site.here])
    for premises in site.both_numbers(one, other):
        found += [(site.yes(), premises), (site.no(), premises)]
    for premises in site.some_word(one, other):
        found += site.faults("BAD", premises)
    return found


def of_is(site, operand, word):
    found = site.matters([operand], [site.yes(), site.no()])
    for worth, premises in site.cases(operand):
        found.append((site.yes() if worth == word else site.no(), premises))
    return found


def of_if(site):
    row = site.row
    # Without an else, a test that fails leads to the end, not behind it.
    otherwise = row.middle + 1 if row.middle else row.last
    ways = [(site.at(row.line + 1), [site.yes()]), (site.at(otherwise), [site.no()])]
    return ways + of_test(site)


def of_while(site):
    ways = [(site.at(site.row.line + 1), [site.yes()]), site.goes_on([site.no()])]
    return ways + of_test(site)


def of_part(site):
    """The clause of try and do."""
    return [(site.at(site.row.line + 1), [site.here])]


def of_closing(site):
    """The clause of a line that closes a part of a statement."""
    block = site.row.block
    behind = block.line if block.words[0] == "while" else block.last + 1
    return [(site.at(behind), [site.here])]


ROWS = {
    "let": of_let,
    "set": of_let,
    "call": of_call,
    "get": of_get,
    "keep": of_keep,
    "show": of_show,
    "give": of_give,
    "raise": of_raise,
    "if": of_if,
    "while": of_while,
    "try": of_part,
    "do": of_part,
    "else": of_closing,
    "catch": of_closing,
    "end": of_closing,
}


def of_function(unit, function):
    """The clauses of a function, its rows included."""
    whole = (unit.name, function.name)
    found = [(("at", unit.name, function.line + 1), [("called", *whole)])]
    found.append((("gives", *whole, "NONE"), [("at", unit.name, function.last)]))
    for worth in worths_of(unit.words):
        found.append((("back", *whole), [("gives", *whole, worth)]))
    for row in function.rows:
        clauses_of_row = ROWS[row.words[0]]
        found += clauses_of_row(Site(unit, function, row))
    return found


def of_root(program, root):
    """The clauses of a root: it is called, with whatever values."""
    many = dict(program.unit(root[0]).opens)[root[1]]
    found = [(("called", *root), ()), (("wants", *root), ())]
    for place in range(many):
        for worth in worths_of(program.words):
            found.append((("holds", *root, str(place), worth), ()))
    return found


def in_order(premises):
    """An ascending tuple of some premises, each once; most clauses have one or two."""
    if len(premises) < 2 or len(premises) == 2 and premises[0] < premises[1]:
        return tuple(premises)
    return tuple(sorted(set(premises)))


def work_out_unit(unit):
    found = [(("keeps", unit.name, cell, word), []) for cell, word in unit.cells]
    for function in unit.functions:
        found += of_function(unit, function)
    return tuple(sorted({(fact, in_order(premises)) for fact, premises in found}))


def work_out_program(program):
    found = []
    for unit in program.units:
        found += unit_clauses(unit)
    for root in program.roots:
        found += of_root(program, root)
    # No clause is one of two units, or of a unit and a root.
    return tuple(sorted(found))


def unit_clauses(unit):
    """The ascending tuple of the clauses of a unit."""
    return recalled(unit, work_out_unit)


def clauses(program):
    """The ascending tuple of the clauses of all units of a program, and of its roots."""
    return recalled(program, work_out_program)

"""Putting in the body of a function in the place of its call."""

from hungfacts.forms import called_function
from hungfacts.writing import View


def put_in(writer, caller, words, line):
    """Write the body of the function that this call of the caller's names, the caller being a View."""
    asking = writer.asking
    home, name = called_function(caller.home, words[2])
    told = asking.ask(("body", home, name)).split(" ")
    behind = 1 + len(words[3:])
    origin = ((caller.home, line),)
    view = View(home, name, tuple(told[1:behind]), origin, {})
    writer.renamed[line] = view.renamed
    for place, operand in enumerate(words[3:]):
        if asking.is_so(("needed", home, name, str(place))):
            put_operand(writer, view, view.params[place], writer.operand(caller, operand))
    for at in range(len(told[behind:])):
        # Each statement of a small function is one line.
        statement_line = int(told[0]) + 1 + at
        if asking.is_so(("reached", home, statement_line)):
            statement = asking.ask(("words", home, name, at)).split(" ")
            if statement[0] != "give":
                put_statement(writer, view, statement, statement_line)
            elif asking.is_so(caller.about("needed", words[1])):
                writer.write(["let", words[1], writer.operand(view, statement[1])], view.origin(statement_line))


def put_operand(writer, view, param, operand):
    writer.write(["let", writer.declared(view, param), operand], view.tail)


def put_statement(writer, view, words, line):
    """Write a statement that is put in, ahead of the give."""
    if words[0] == "let":
        writer.write_let(view, words, line)
    elif words[0] == "call":
        writer.write_call(view, words, line)
    else:
        writer.write_show(view, words, line)

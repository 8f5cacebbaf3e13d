"""What each statement does in a run.

Each function here takes the run (a Going), its innermost Frame, and the row of the statement.
"""

MODULUS = 1000003


def reckoned(one, sign, other):
    """The value of A OP B for two integers."""
    if sign == "+":
        return (one + other) % MODULUS
    if sign == "-":
        return (one - other) % MODULUS
    return one * other % MODULUS


def is_word(value):
    return isinstance(value, str)


def do_let(going, frame, row):
    words = row.words
    value = frame.stands_for(words[2])
    if len(words) == 5:
        other = frame.stands_for(words[4])
        if is_word(value) or is_word(other):
            going.fault("BAD")
            return
        value = reckoned(value, words[3], other)
    going.take(words[1], value, frame.line + 1)


def do_call(going, frame, row):
    # The line stays that of the call until the function comes back.
    going.enter(going.called_here(), [frame.stands_for(operand) for operand in row.words[3:]])


def do_get(going, frame, row):
    going.take(row.words[1], going.cells[(frame.home, row.words[2])], frame.line + 1)


def do_keep(going, frame, row):
    going.keep_in(row.words[1], frame.stands_for(row.words[2]))
    going.go_to(frame.line + 1)


def do_show(going, frame, row):
    going.shown.append(frame.stands_for(row.words[1]))
    going.go_to(frame.line + 1)


def do_give(going, frame, row):
    going.leave(frame.stands_for(row.words[1]))


def do_raise(going, frame, row):
    value = frame.stands_for(row.words[1])
    going.fault(value if is_word(value) else "BAD")


def tested(going, frame, words):
    """Whether the test of this line holds; None: a fault came."""
    one = frame.stands_for(words[1])
    if words[2] == "is":
        held = one == words[3]
    else:
        other = frame.stands_for(words[3])
        if is_word(one) or is_word(other):
            going.fault("BAD")
            return None
        held = one < other
    going.meet(("yes" if held else "no", frame.home, frame.line))
    return held


def do_if(going, frame, row):
    held = tested(going, frame, row.words)
    if held is None:
        return
    if held:
        going.go_to(frame.line + 1)
    else:
        going.go_to(row.middle + 1 if row.middle else row.last)


def do_while(going, frame, row):
    if not going.may_go():
        return
    held = tested(going, frame, row.words)
    if held is not None:
        going.go_to(row.line + 1 if held else row.last + 1)


def do_part(going, frame, _row):
    """What try and do do."""
    going.go_to(frame.line + 1)


DOING = {
    "let": do_let,
    "set": do_let,
    "call": do_call,
    "get": do_get,
    "keep": do_keep,
    "show": do_show,
    "give": do_give,
    "raise": do_raise,
    "if": do_if,
    "while": do_while,
    "try": do_part,
    "do": do_part,
}


def do_next(going):
    """Do the statement under way, and come to the next one."""
    frame = going.frame
    row = frame.current()
    action = DOING[row.words[0]]
    action(going, frame, row)
    going.come()

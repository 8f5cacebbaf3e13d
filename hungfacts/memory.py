"""What is worked out once about a thing that never changes."""


def recalled(thing, work, *given):
    """What an own function makes of a unit or a program and of what else it is given.

    given: integers, strings, and tuples of these. What is made must never be changed.
    """
    key = (work, *given)
    if key not in thing.memory:
        thing.memory[key] = work(thing, *given)
    return thing.memory[key]

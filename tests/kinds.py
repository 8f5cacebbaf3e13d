"""Values of many kinds, for what takes any value."""

from tests.helper import program, unit


def deep(value, many=30):
    for _ in range(many):
        value = [value]
    return value


UNIT = unit("unit a / open f / end")
PROGRAM = program(("unit a / open f / end",), (("a", "f"),))
KINDS = (None, True, False, 0, 1, -1, 99, 100, 10 ** 18 - 1, "", "a", "ON", "num", "at a 3", (), [], {}, (None,), ([],), ({},),
         ((),), ((), ()), ("a",), ("a", "f"), ["a", "f"], [("a", "f")], {"a": "f"}, ("at",), ("at", "a"), ("at", "a", True),
         ("at", "a", "3"), ["at", "a", 3], ("at", ["a"], 3), ("at", "a", 3, 3), (("at", "a", 3),), ("holds", "a", "f", 0, "ON"),
         ("called", "a", None), (["called", "a", "f"],), (("called", "a", "f"), []), UNIT, (UNIT,), [UNIT], PROGRAM,
         (PROGRAM, ("a", "f")), deep(1), (deep("a"),), {"a": [1, (2, {"b": None})]})

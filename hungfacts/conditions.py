"""Conditions of cases: inputs, and that a place or a function has another worth than one."""


def included(condition, worths):
    """The conditions that a condition includes."""
    kind, home, name = condition[:3]
    if kind == "wants":
        return [("called", home, name)]
    if kind == "unlike":
        return [("called", home, name)]
    if kind == "other":
        return [("back", home, name)]
    if kind == "holds":
        place, worth = condition[3:]
        return [("called", home, name)] + [("unlike", home, name, place, each) for each in worths if each != worth]
    if kind == "gives":
        return [("back", home, name)] + [("other", home, name, each) for each in worths if each != condition[3]]
    return []


def with_included(case, worths):
    """The conditions of a case and those that they include, as the keys of a dict."""
    found = {condition: True for condition in case}
    for condition in case:
        for each in included(condition, worths):
            found[each] = True
    return found

"""Looks: questions that are asked of a value and hold or do not."""

from putback.kinds import is_plain, kind_at
from putback.values import misfit


def unsound(look, kind):
    form = look[0]
    if form == "not":
        return inner_place(look, 1, kind)
    if form == "and" or form == "or":
        place = inner_place(look, 1, kind)
        return inner_place(look, 2, kind) if place is None else place
    return None if stands_on(look, kind_along(look[1], kind)) else []


def inner_place(look, number, kind):
    place = unsound(look[number], kind)
    return None if place is None else [number] + place


def kind_along(path, kind):
    there = kind
    for name in path:
        if there is None or there[0] != "record":
            return None
        there = kind_at(there[1], name)
    return there


def stands_on(look, there):
    form = look[0]
    if there is None:
        return False
    if form == "is":
        return there[0] == "either" and kind_at(there[1], look[2]) is not None
    if form == "some":
        return there[0] == "rows" or there[0] == "tree"
    return is_plain(there) and misfit(there, look[2]) is None


def holds(look, value):
    form = look[0]
    if form == "not":
        return not holds(look[1], value)
    if form == "and":
        return holds(look[1], value) and holds(look[2], value)
    if form == "or":
        return holds(look[1], value) or holds(look[2], value)
    return holds_of(look, value_along(look[1], value))


def value_along(path, value):
    there = value
    for name in path:
        there = there[name]
    return there


def holds_of(look, there):
    form = look[0]
    if form == "less":
        return there < look[2]
    if form == "same":
        return there == look[2]
    if form == "is":
        return there[0] == look[2]
    # Rows are a list, and a tree is a tuple with its arms second.
    arms_or_rows = there if isinstance(there, list) else there[1]
    return len(arms_or_rows) > 0

"""Kinds: the forms that values have, made of pairs in any order."""

from putback.errors import NoKind


def is_plain(kind):
    return kind == ("number",) or kind == ("word",)


def kind_at(fields, name):
    for pair in fields:
        if pair[0] == name:
            return pair[1]
    return None


def sorted_fields(pairs):
    # By the name alone: kinds have no order that the document tells.
    fields = tuple(sorted(pairs, key=lambda pair: pair[0]))
    for number in range(1, len(fields)):
        name = fields[number][0]
        if name == fields[number - 1][0]:
            raise NoKind(f"the name {name} is told twice")
    return fields


def record_of(pairs):
    return ("record", sorted_fields(pairs))


def either_of(pairs):
    fields = sorted_fields(pairs)
    if len(fields) == 0:
        raise NoKind("an either has at least one field")
    return ("either", fields)


def rows_of(key, by, pairs):
    fields = sorted_fields(pairs)
    if not is_plain(kind_at(fields, key)):
        raise NoKind(f"the key {key!r} is no field of a plain kind")
    if by != "" and not is_plain(kind_at(fields, by)):
        raise NoKind(f"the order's {by!r} is no field of a plain kind")
    if by == key:
        raise NoKind(f"the order's {by!r} is the key itself")
    return ("rows", key, by, fields)

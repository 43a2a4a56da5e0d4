"""Values of a kind: where one does not fit, the empty one, copies, and the order of rows."""

from putback.kinds import kind_at


def misfit(kind, value):
    form = kind[0]
    if form == "number":
        # Python counts True and False among its whole numbers.
        return None if isinstance(value, int) and not isinstance(value, bool) else []
    if form == "word":
        return None if isinstance(value, str) else []
    if form == "record":
        return record_misfit(kind[1], value)
    if form == "rows":
        return rows_misfit(kind, value)
    if form == "tree":
        return tree_misfit(kind, value)
    return either_misfit(kind[1], value)


def record_misfit(fields, record):
    if not isinstance(record, dict) or not has_just(fields, record):
        return []
    for name, inner in fields:
        place = misfit(inner, record[name])
        if place is not None:
            return [name] + place
    return None


def has_just(fields, record):
    return len(record) == len(fields) and all([name in record for name, inner in fields])


def rows_misfit(kind, rows):
    if not isinstance(rows, list):
        return []
    earlier = {}
    for number, row in enumerate(rows):
        place = record_misfit(kind[3], row)
        if place is not None:
            return [number] + place
        if number > 0 and rank(kind, row) <= rank(kind, rows[number - 1]):
            return [number]
        # With a by, rows that rise may still have a key again.
        if row[kind[1]] in earlier:
            return [number]
        earlier[row[kind[1]]] = True
    return None


def is_pair(value):
    return isinstance(value, tuple) and len(value) == 2


def tree_misfit(kind, tree):
    if not is_pair(tree) or not isinstance(tree[1], list):
        return []
    place = misfit(kind[1], tree[0])
    if place is not None:
        return ["knot"] + place
    for number, arm in enumerate(tree[1]):
        place = tree_misfit(kind, arm)
        if place is not None:
            return [number] + place
    return None


def either_misfit(fields, value):
    if not is_pair(value):
        return []
    inner = kind_at(fields, value[0])
    if inner is None:
        return []
    place = misfit(inner, value[1])
    if place is not None:
        return [value[0]] + place
    return None


def empty(kind):
    form = kind[0]
    if form == "number":
        return 0
    if form == "word":
        return ""
    if form == "record":
        return empty_record(kind[1])
    if form == "rows":
        return []
    if form == "tree":
        return (empty(kind[1]), [])
    first = kind[1][0]
    return (first[0], empty(first[1]))


def empty_record(fields):
    record = {}
    for name, inner in fields:
        record[name] = empty(inner)
    return record


def copied(kind, value):
    form = kind[0]
    if form == "record":
        return copied_record(kind[1], value)
    if form == "rows":
        return [copied_record(kind[3], row) for row in value]
    if form == "tree":
        return (copied(kind[1], value[0]), [copied(kind, arm) for arm in value[1]])
    if form == "either":
        return (value[0], copied(kind_at(kind[1], value[0]), value[1]))
    return value


def copied_record(fields, record):
    fresh = {}
    for name, inner in fields:
        fresh[name] = copied(inner, record[name])
    return fresh


def rank(kind, row):
    key = kind[1]
    by = kind[2]
    if by == "":
        return (row[key],)
    return (row[by], row[key])


def in_order(kind, rows):
    return sorted(rows, key=lambda row: rank(kind, row))


def by_key(kind, rows):
    found = {}
    for row in rows:
        found[row[kind[1]]] = row
    return found

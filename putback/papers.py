"""Papers: lists of steps that tell a change. One is done on a value, and one is told between two values."""

from putback.errors import NoPaper
from putback.kinds import is_plain, kind_at
from putback.values import by_key, in_order, misfit


def done(kind, paper, value):
    now = value
    for number, step in enumerate(paper):
        now = stepped(kind, step, step[1], now)
        if now is None:
            raise NoPaper(number)
    return now


def turned(kind, paper, value):
    return between(kind, done(kind, paper, value), value)


def between(kind, old, new):
    return paper_at((), kind, old, new)


def stepped(kind, step, path, value):
    # No kind has None among its values, so here and below None tells that the step can not be done.
    if len(path) == 0:
        return acted(kind, step, value)
    form = kind[0]
    if form == "record":
        return stepped_in_record(kind[1], step, path, value)
    if form == "rows":
        return stepped_in_rows(kind, step, path, value)
    if form == "tree":
        return stepped_in_tree(kind, step, path, value)
    if form == "either":
        return stepped_in_either(kind[1], step, path, value)
    return None


def stepped_in_record(fields, step, path, record):
    name = path[0]
    inner = kind_at(fields, name)
    if inner is None:
        return None
    part = stepped(inner, step, path[1:], record[name])
    if part is None:
        return None
    fresh = dict(record)
    fresh[name] = part
    return fresh


def stepped_in_rows(kind, step, path, rows):
    number = row_number(kind, rows, path[0])
    if number is None or ends_at_key(kind, path):
        return None
    row = stepped(("record", kind[3]), step, path[1:], rows[number])
    if row is None:
        return None
    # The step may have changed the row's value at by.
    return in_order(kind, with_at(rows, number, row))


def ends_at_key(kind, path):
    # A key is plain: set is the one step for it, and may not change it.
    return len(path) == 2 and path[1] == kind[1]


def row_number(kind, rows, key):
    # Python takes True for 1, so the key is held to its kind ahead of the walk.
    if misfit(kind_at(kind[3], kind[1]), key) is not None:
        return None
    for number, row in enumerate(rows):
        if row[kind[1]] == key:
            return number
    return None


def with_at(things, number, thing):
    return things[:number] + [thing] + things[number + 1:]


def stepped_in_tree(kind, step, path, tree):
    if path[0] != "knot":
        return stepped_in_arm(kind, step, path, tree)
    knot = stepped(kind[1], step, path[1:], tree[0])
    return None if knot is None else (knot, tree[1])


def stepped_in_arm(kind, step, path, tree):
    number = path[0]
    arms = tree[1]
    if misfit(("number",), number) is not None or number < 0 or number >= len(arms):
        return None
    arm = stepped(kind, step, path[1:], arms[number])
    return None if arm is None else (tree[0], with_at(arms, number, arm))


def stepped_in_either(fields, step, path, value):
    name = value[0]
    if path[0] != name:
        return None
    part = stepped(kind_at(fields, name), step, path[1:], value[1])
    return None if part is None else (name, part)


def acted(kind, step, value):
    deed = step[0]
    form = kind[0]
    if deed == "set" and (is_plain(kind) or form == "either"):
        return step[2] if misfit(kind, step[2]) is None else None
    if deed == "add" and form == "rows":
        return with_row(kind, value, step[2])
    if deed == "cut" and form == "rows":
        return without_row(kind, value, step[2])
    if deed == "grow" and form == "tree":
        return (value[0], value[1] + [step[2]]) if misfit(kind, step[2]) is None else None
    if deed == "trim" and form == "tree":
        return (value[0], value[1][:-1]) if len(value[1]) > 0 else None
    return None


def with_row(kind, rows, row):
    if misfit(("record", kind[3]), row) is not None:
        return None
    if row_number(kind, rows, row[kind[1]]) is not None:
        return None
    return in_order(kind, rows + [row])


def without_row(kind, rows, key):
    number = row_number(kind, rows, key)
    return None if number is None else rows[:number] + rows[number + 1:]


def paper_at(path, kind, old, new):
    form = kind[0]
    if form == "record":
        return record_paper(path, kind[1], old, new)
    if form == "rows":
        return rows_paper(path, kind, old, new)
    if form == "tree":
        return tree_paper(path, kind, old, new)
    if form == "either" and old[0] == new[0]:
        return paper_at(path + (new[0],), kind_at(kind[1], new[0]), old[1], new[1])
    return [] if old == new else [("set", path, new)]


def record_paper(path, fields, old, new):
    paper = []
    for name, inner in fields:
        paper.extend(paper_at(path + (name,), inner, old[name], new[name]))
    return paper


def rows_paper(path, kind, old, new):
    old_rows = by_key(kind, old)
    new_rows = by_key(kind, new)
    paper = []
    for key in sorted(set(old_rows) | set(new_rows)):
        if key not in new_rows:
            paper.append(("cut", path, key))
        elif key not in old_rows:
            paper.append(("add", path, new_rows[key]))
        else:
            paper.extend(record_paper(path + (key,), kind[3], old_rows[key], new_rows[key]))
    return paper


def tree_paper(path, kind, old, new):
    old_arms = old[1]
    new_arms = new[1]
    paper = paper_at(path + ("knot",), kind[1], old[0], new[0])
    for number in range(min(len(old_arms), len(new_arms))):
        paper.extend(tree_paper(path + (number,), kind, old_arms[number], new_arms[number]))
    for number in range(len(new_arms), len(old_arms)):
        paper.append(("trim", path))
    for number in range(len(old_arms), len(new_arms)):
        paper.append(("grow", path, new_arms[number]))
    return paper

"""Kinds and values in writing: read from texts, and written as texts."""

from putback.kinds import either_of, kind_at, record_of, rows_of
from putback.signs import Reader

FORMS = ("number", "word", "rows", "either")


def read_kind(text):
    reader = Reader(text)
    told = told_kind(reader)
    reader.ask_end()
    # Only now, as a text that can not be read is refused ahead of one that tells no kind.
    return made_kind(told)


def told_kind(reader):
    # Trees are counted, not gone down into, as no brackets bound how many a text tells.
    trees = 0
    while reader.passed("name", "tree"):
        trees += 1
    told = told_form(reader)
    for number in range(trees):
        told = ("tree", told)
    return told


def told_form(reader):
    if reader.is_at("mark", "{"):
        return ("record", reader.listed("{", "}", told_field))
    form = reader.taken_among(FORMS)
    if form == "either":
        return ("either", reader.listed("{", "}", told_field))
    if form == "rows":
        key = reader.taken("name")
        by = reader.taken("name") if reader.passed("name", "by") else ""
        return ("rows", key, by, reader.listed("{", "}", told_field))
    return (form,)


def told_field(reader):
    name = reader.taken("name")
    reader.pass_mark(":")
    return (name, told_kind(reader))


def made_kind(told):
    form = told[0]
    if form == "record":
        return record_of(made_pairs(told[1]))
    if form == "rows":
        return rows_of(told[1], told[2], made_pairs(told[3]))
    if form == "tree":
        return ("tree", made_kind(told[1]))
    if form == "either":
        return either_of(made_pairs(told[1]))
    return told


def made_pairs(pairs):
    return [(name, made_kind(told)) for name, told in pairs]


def written_kind(kind):
    form = kind[0]
    if form == "record":
        return written_fields(kind[1])
    if form == "rows":
        order = "" if kind[2] == "" else " by " + kind[2]
        return "rows " + kind[1] + order + " " + written_fields(kind[3])
    if form == "tree":
        return "tree " + written_kind(kind[1])
    if form == "either":
        return "either " + written_fields(kind[1])
    return form


def written_fields(fields):
    return "{" + ", ".join([name + ": " + written_kind(inner) for name, inner in fields]) + "}"


def read_value(kind, text):
    reader = Reader(text)
    value = told_value(reader, kind)
    reader.ask_end()
    return value


def told_value(reader, kind):
    form = kind[0]
    if form == "record":
        return told_record(reader, kind[1])
    if form == "rows":
        return reader.listed("[", "]", lambda inner: told_record(inner, kind[3]))
    if form == "tree":
        return told_tree(reader, kind)
    if form == "either":
        return told_either(reader, kind[1])
    return reader.taken(form)


def told_record(reader, fields):
    record = {}
    reader.pass_mark("{")
    for number, pair in enumerate(fields):
        if number > 0:
            reader.pass_mark(",")
        name = reader.taken_among([pair[0]])
        reader.pass_mark(":")
        record[name] = told_value(reader, pair[1])
    reader.pass_mark("}")
    return record


def told_tree(reader, kind):
    reader.pass_mark("<")
    value = told_value(reader, kind[1])
    arms = []
    mark = ":"
    while reader.passed("mark", mark):
        arms.append(told_tree(reader, kind))
        mark = ","
    reader.pass_mark(">")
    return (value, arms)


def told_either(reader, fields):
    name = reader.taken_among([pair[0] for pair in fields])
    reader.pass_mark("(")
    value = told_value(reader, kind_at(fields, name))
    reader.pass_mark(")")
    return (name, value)


def written_value(kind, value):
    form = kind[0]
    if form == "number":
        return str(value)
    if form == "word":
        return '"' + value + '"'
    if form == "record":
        return written_record(kind[1], value)
    if form == "rows":
        return "[" + ", ".join([written_record(kind[3], row) for row in value]) + "]"
    if form == "tree":
        return written_tree(kind, value)
    return value[0] + "(" + written_value(kind_at(kind[1], value[0]), value[1]) + ")"


def written_record(fields, record):
    return "{" + ", ".join([name + ": " + written_value(inner, record[name]) for name, inner in fields]) + "}"


def written_tree(kind, tree):
    told = written_value(kind[1], tree[0])
    if len(tree[1]) == 0:
        return "<" + told + ">"
    return "<" + told + ": " + ", ".join([written_tree(kind, arm) for arm in tree[1]]) + ">"

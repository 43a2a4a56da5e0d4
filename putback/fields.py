"""Views of records: some of the fields, another name, fields nested, and one field by itself."""

from putback.kinds import kind_at, record_of
from putback.views import View, ask_fit, ask_stands, behind_inner, put_inner


def field_kind(kind, name):
    return kind_at(kind[1], name) if kind[0] == "record" else None


def has_each_once(kind, names):
    if len(set(names)) != len(names):
        return False
    return kind[0] == "record" and all([kind_at(kind[1], name) is not None for name in names])


def fields_among(fields, names):
    return [pair for pair in fields if pair[0] in names]


def fields_but(fields, names):
    return [pair for pair in fields if pair[0] not in names]


def names_of(fields):
    return [name for name, inner in fields]


def part_of(record, names):
    part = {}
    for name in names:
        part[name] = record[name]
    return part


def rest_of(record, names):
    return part_of(record, [name for name in record if name not in names])


def with_field(record, name, value):
    fresh = dict(record)
    fresh[name] = value
    return fresh


def renamed(record, old, new):
    return with_field(rest_of(record, [old]), new, record[old])


def nested(record, names, into):
    return with_field(rest_of(record, names), into, part_of(record, names))


def unnested(record, field):
    fresh = rest_of(record, [field])
    fresh.update(record[field])
    return fresh


class Take(View):
    def __init__(self, names):
        # A list of its own: the one handed in may be changed later.
        self.names = list(names)

    def behind(self, kind):
        ask_stands(has_each_once(kind, self.names))
        return record_of(fields_among(kind[1], self.names))

    def see(self, kind, source):
        return part_of(source, self.names)

    def put(self, kind, source, seen):
        ask_fit(self.behind(kind), seen)
        fresh = dict(source)
        fresh.update(seen)
        return fresh

    def grade(self):
        return "firm"

    def keeps(self, name):
        return name in self.names


class Rename(View):
    def __init__(self, old, new):
        self.old = old
        self.new = new

    def behind(self, kind):
        inner = field_kind(kind, self.old)
        ask_stands(inner is not None and kind_at(kind[1], self.new) is None)
        return record_of(fields_but(kind[1], [self.old]) + [(self.new, inner)])

    def see(self, kind, source):
        return renamed(source, self.old, self.new)

    def put(self, kind, source, seen):
        ask_fit(self.behind(kind), seen)
        return renamed(seen, self.new, self.old)

    def keeps(self, name):
        return name != self.old and name != self.new


class Nest(View):
    def __init__(self, names, into):
        self.names = list(names)
        self.into = into

    def behind(self, kind):
        ask_stands(has_each_once(kind, self.names))
        rest = fields_but(kind[1], self.names)
        ask_stands(kind_at(rest, self.into) is None)
        return record_of(rest + [(self.into, record_of(fields_among(kind[1], self.names)))])

    def see(self, kind, source):
        return nested(source, self.names, self.into)

    def put(self, kind, source, seen):
        ask_fit(self.behind(kind), seen)
        return unnested(seen, self.into)

    def keeps(self, name):
        return name not in self.names and name != self.into


class Unnest(View):
    def __init__(self, field):
        self.field = field

    def behind(self, kind):
        inner = field_kind(kind, self.field)
        ask_stands(inner is not None and inner[0] == "record")
        rest = fields_but(kind[1], [self.field])
        ask_stands(len(fields_among(rest, names_of(inner[1]))) == 0)
        return record_of(rest + list(inner[1]))

    def see(self, kind, source):
        return unnested(source, self.field)

    def put(self, kind, source, seen):
        ask_fit(self.behind(kind), seen)
        return nested(seen, names_of(field_kind(kind, self.field)[1]), self.field)

    def keeps(self, name):
        return name != self.field


class Within(View):
    def __init__(self, field, inner):
        self.field = field
        self.inner = inner

    def behind(self, kind):
        there = field_kind(kind, self.field)
        ask_stands(there is not None)
        shown = behind_inner([self.field], self.inner, there)
        return record_of(fields_but(kind[1], [self.field]) + [(self.field, shown)])

    def see(self, kind, source):
        there = field_kind(kind, self.field)
        return with_field(source, self.field, self.inner.see(there, source[self.field]))

    def put(self, kind, source, seen):
        ask_fit(self.behind(kind), seen)
        name = self.field
        new = put_inner([name], self.inner, field_kind(kind, name), source[name], seen[name])
        return with_field(seen, name, new)

    def grade(self):
        return self.inner.grade()

    def keeps(self, name):
        return name != self.field


class At(View):
    def __init__(self, name):
        self.name = name

    def behind(self, kind):
        there = field_kind(kind, self.name)
        ask_stands(there is not None)
        return there

    def see(self, kind, source):
        return source[self.name]

    def put(self, kind, source, seen):
        ask_fit(self.behind(kind), seen)
        return with_field(source, self.name, seen)

    def grade(self):
        return "firm"

    def keeps(self, name):
        return False

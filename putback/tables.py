"""Views of rows: some of them, in another order, each through a view, with a sum beside, and in groups."""

from putback.errors import CantPut, NoView
from putback.fields import fields_but, rest_of, with_field
from putback.kinds import is_plain, kind_at, record_of, rows_of
from putback.looks import holds, unsound
from putback.values import by_key, empty_record, in_order
from putback.views import View, ask_fit, ask_stands, behind_inner, put_inner


class Keep(View):
    def __init__(self, look):
        self.look = look

    def behind(self, kind):
        ask_stands(kind[0] == "rows")
        place = unsound(self.look, ("record", kind[3]))
        if place is not None:
            raise NoView(["look"] + place)
        return kind

    def see(self, kind, source):
        return [row for row in source if holds(self.look, row)]

    def put(self, kind, source, seen):
        ask_fit(kind, seen)
        hidden = [row for row in source if not holds(self.look, row)]
        hidden_keys = by_key(kind, hidden)
        for number, row in enumerate(seen):
            if not holds(self.look, row) or row[kind[1]] in hidden_keys:
                raise CantPut([number])
        return in_order(kind, seen + hidden)

    def grade(self):
        return "firm"

    def keeps(self, name):
        return False


class Order(View):
    def __init__(self, by=""):
        self.by = by

    def behind(self, kind):
        ask_stands(kind[0] == "rows" and self.by != kind[1])
        ask_stands(self.by == "" or is_plain(kind_at(kind[3], self.by)))
        return ("rows", kind[1], self.by, kind[3])

    def see(self, kind, source):
        return in_order(self.behind(kind), source)

    def put(self, kind, source, seen):
        ask_fit(self.behind(kind), seen)
        return in_order(kind, seen)

    def keeps(self, name):
        return False


class Each(View):
    def __init__(self, inner):
        self.inner = inner

    def behind(self, kind):
        ask_stands(kind[0] == "rows")
        shown = behind_inner(["row"], self.inner, ("record", kind[3]))
        ask_stands(shown[0] == "record" and self.keeps_order(kind))
        return ("rows", kind[1], kind[2], shown[1])

    def keeps_order(self, kind):
        return self.inner.keeps(kind[1]) and (kind[2] == "" or self.inner.keeps(kind[2]))

    def see(self, kind, source):
        return [self.inner.see(("record", kind[3]), row) for row in source]

    def put(self, kind, source, seen):
        ask_fit(self.behind(kind), seen)
        old_rows = by_key(kind, source)
        new_rows = []
        for number, row in enumerate(seen):
            key = row[kind[1]]
            old = old_rows[key] if key in old_rows else with_field(empty_record(kind[3]), kind[1], key)
            new_rows.append(put_inner([number], self.inner, ("record", kind[3]), old, row))
        # The inner view keeps what the rows are ordered by, so they stand in order as they are.
        return new_rows

    def grade(self):
        return "full" if self.inner.grade() == "full" else "loose"

    def keeps(self, name):
        return False


class Beside(View):
    def __init__(self, field, rows, total):
        self.field = field
        self.rows = rows
        self.total = total

    def behind(self, kind):
        ask_stands(kind[0] == "rows" and kind_at(kind[3], self.field) == ("number",))
        ask_stands(self.rows != self.total)
        return record_of([(self.rows, kind), (self.total, ("number",))])

    def see(self, kind, source):
        return {self.rows: source, self.total: self.sum_of(source)}

    def put(self, kind, source, seen):
        ask_fit(self.behind(kind), seen)
        if seen[self.total] != self.sum_of(seen[self.rows]):
            raise CantPut([self.total])
        return seen[self.rows]

    def sum_of(self, rows):
        return sum([row[self.field] for row in rows])

    def keeps(self, name):
        return False


class Group(View):
    def __init__(self, field, into):
        self.field = field
        self.into = into

    def behind(self, kind):
        ask_stands(kind[0] == "rows" and self.field != kind[1] and self.field != self.into)
        there = kind_at(kind[3], self.field)
        ask_stands(is_plain(there))
        by = "" if kind[2] == self.field else kind[2]
        inner = rows_of(kind[1], by, fields_but(kind[3], [self.field]))
        return rows_of(self.field, "", [(self.field, there), (self.into, inner)])

    def see(self, kind, source):
        groups = {}
        for row in source:
            groups.setdefault(row[self.field], []).append(rest_of(row, [self.field]))
        return [{self.field: value, self.into: groups[value]} for value in sorted(groups)]

    def put(self, kind, source, seen):
        ask_fit(self.behind(kind), seen)
        # Within one group no key stands twice, so each row found is an earlier group's.
        found = {}
        for number, group in enumerate(seen):
            if len(group[self.into]) == 0:
                raise CantPut([number, self.into])
            for place, row in enumerate(group[self.into]):
                if row[kind[1]] in found:
                    raise CantPut([number, self.into, place])
                found[row[kind[1]]] = with_field(row, self.field, group[self.field])
        return in_order(kind, list(found.values()))

    def keeps(self, name):
        return False

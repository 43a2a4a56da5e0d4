"""The view of two fields of rows as one: each left row with the fields of its right row beside."""

from putback.errors import CantPut
from putback.fields import fields_but, names_of, part_of, rest_of, with_field
from putback.kinds import kind_at, record_of, rows_of
from putback.values import by_key, copied_record, in_order
from putback.views import View, ask_fit, ask_stands


def other_fields(rights):
    return fields_but(rights[3], [rights[1]])


class Join(View):
    def __init__(self, left, right, link):
        self.left = left
        self.right = right
        self.link = link

    def behind(self, kind):
        ask_stands(self.has_both(kind) and self.has_link(kind))
        lefts = self.left_kind(kind)
        joined = rows_of(lefts[1], lefts[2], list(lefts[3]) + other_fields(self.right_kind(kind)))
        return record_of(fields_but(kind[1], [self.left, self.right]) + [(self.left, joined)])

    def left_kind(self, kind):
        return kind_at(kind[1], self.left)

    def right_kind(self, kind):
        return kind_at(kind[1], self.right)

    def has_both(self, kind):
        if kind[0] != "record" or self.left == self.right:
            return False
        lefts = self.left_kind(kind)
        rights = self.right_kind(kind)
        return lefts is not None and rights is not None and lefts[0] == "rows" and rights[0] == "rows"

    def has_link(self, kind):
        lefts = self.left_kind(kind)
        rights = self.right_kind(kind)
        if kind_at(lefts[3], self.link) != kind_at(rights[3], rights[1]):
            return False
        return all([kind_at(lefts[3], name) is None for name, inner in other_fields(rights)])

    def see(self, kind, source):
        rights = self.right_kind(kind)
        right_rows = by_key(rights, source[self.right])
        rows = []
        for row in source[self.left]:
            if row[self.link] in right_rows:
                fresh = dict(row)
                # Several left rows may show one right row: each has it for itself.
                fresh.update(copied_record(other_fields(rights), right_rows[row[self.link]]))
                rows.append(fresh)
        return with_field(rest_of(source, [self.right]), self.left, rows)

    def put(self, kind, source, seen):
        ask_fit(self.behind(kind), seen)
        hidden = self.hidden_rows(kind, source)
        told = self.told_by_link(kind, hidden, seen[self.left])
        fresh = with_field(seen, self.left, self.new_left(kind, hidden, seen[self.left]))
        return with_field(fresh, self.right, self.new_right(kind, source[self.right], told))

    def hidden_rows(self, kind, source):
        right_rows = by_key(self.right_kind(kind), source[self.right])
        return [row for row in source[self.left] if row[self.link] not in right_rows]

    def told_by_link(self, kind, hidden, seen_rows):
        key = self.left_kind(kind)[1]
        names = names_of(other_fields(self.right_kind(kind)))
        hidden_keys = [row[key] for row in hidden]
        hidden_links = [row[self.link] for row in hidden]
        told = {}
        for number, row in enumerate(seen_rows):
            if row[key] in hidden_keys or row[self.link] in hidden_links:
                raise CantPut([self.left, number])
            part = part_of(row, names)
            if told.setdefault(row[self.link], part) != part:
                raise CantPut([self.left, number])
        return told

    def new_left(self, kind, hidden, seen_rows):
        lefts = self.left_kind(kind)
        shown = [part_of(row, names_of(lefts[3])) for row in seen_rows]
        return in_order(lefts, shown + hidden)

    def new_right(self, kind, right_rows, told):
        rights = self.right_kind(kind)
        rows = [row for row in right_rows if row[rights[1]] not in told]
        for value in told:
            rows.append(with_field(told[value], rights[1], value))
        return in_order(rights, rows)

    def grade(self):
        return "loose"

    def keeps(self, name):
        return name != self.left and name != self.right

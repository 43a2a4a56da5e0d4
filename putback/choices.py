"""Views of shapes: one shape of an either through a view, and one of two views as a look tells."""

from putback.errors import CantPut, NoView
from putback.kinds import either_of, kind_at
from putback.looks import holds, unsound
from putback.values import empty
from putback.views import View, ask_fit, ask_stands, behind_inner, put_inner, worse


def shape_kind(kind, name):
    return kind_at(kind[1], name) if kind[0] == "either" else None


class Case(View):
    def __init__(self, name, inner):
        self.name = name
        self.inner = inner

    def behind(self, kind):
        there = shape_kind(kind, self.name)
        ask_stands(there is not None)
        shown = behind_inner([self.name], self.inner, there)
        return either_of([(name, shown if name == self.name else other) for name, other in kind[1]])

    def see(self, kind, source):
        if source[0] != self.name:
            return source
        return (self.name, self.inner.see(shape_kind(kind, self.name), source[1]))

    def put(self, kind, source, seen):
        ask_fit(self.behind(kind), seen)
        if seen[0] != self.name:
            return seen
        there = shape_kind(kind, self.name)
        old = source[1] if source[0] == self.name else empty(there)
        return (self.name, put_inner([self.name], self.inner, there, old, seen[1]))

    def grade(self):
        return "full" if self.inner.grade() == "full" else "loose"

    def keeps(self, name):
        return False


class Choose(View):
    def __init__(self, look, yes, no):
        self.look = look
        self.yes = yes
        self.no = no

    def behind(self, kind):
        place = unsound(self.look, kind)
        if place is not None:
            raise NoView(["look"] + place)
        shown = behind_inner(["yes"], self.yes, kind)
        ask_stands(behind_inner(["no"], self.no, kind) == shown)
        return shown

    def see(self, kind, source):
        view = self.yes if holds(self.look, source) else self.no
        return view.see(kind, source)

    def put(self, kind, source, seen):
        ask_fit(self.behind(kind), seen)
        held = holds(self.look, source)
        if held:
            new = put_inner(["yes"], self.yes, kind, source, seen)
        else:
            new = put_inner(["no"], self.no, kind, source, seen)
        # Else the new source would be seen through the other view, which need not show what was put.
        if holds(self.look, new) != held:
            raise CantPut([])
        return new

    def grade(self):
        # The source is always asked which view it is, so not even two full views make a full one.
        return worse("firm", worse(self.yes.grade(), self.no.grade()))

    def keeps(self, name):
        return self.yes.keeps(name) and self.no.keeps(name)

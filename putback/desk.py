"""A desk: views that hang over one source, and deeds that tell each view how what it shows has changed."""

from putback.errors import NoDeed, NoFit, NoName, Twice
from putback.papers import between, done
from putback.values import copied, empty, misfit


def first_source(kind, source):
    if source is None:
        return empty(kind)
    place = misfit(kind, source)
    if place is not None:
        raise NoFit(place)
    return copied(kind, source)


def shown(view, kind, source):
    # A view may show parts of the source itself.
    return copied(view.behind(kind), view.see(kind, source))


class Desk:
    def __init__(self, kind, source=None):
        self.kind = kind
        self.source = first_source(kind, source)
        self.views = {}
        self.past = []

    def hang(self, name, view):
        if name in self.views:
            raise Twice(f"a view hangs under the name {name}")
        view.behind(self.kind)
        self.views[name] = view

    def take_down(self, name):
        self.ask_hung(name)
        self.views.pop(name)

    def ask_hung(self, name):
        if name not in self.views:
            raise NoName(f"no view hangs under the name {name}")

    def hung(self):
        return list(self.views)

    def source_now(self):
        return copied(self.kind, self.source)

    def seen_by(self, name):
        self.ask_hung(name)
        return shown(self.views[name], self.kind, self.source)

    def put_by(self, name, seen):
        self.ask_hung(name)
        return self.did(self.views[name].put(self.kind, self.source, seen))

    def change(self, paper):
        return self.did(done(self.kind, paper, self.source))

    def undo(self):
        if len(self.past) == 0:
            raise NoDeed("no deed is left that could be undone")
        return self.moved_to(self.past.pop())

    def did(self, new):
        self.past.append(self.source)
        # The new source may share parts with what was handed in.
        return self.moved_to(copied(self.kind, new))

    def moved_to(self, new):
        old = self.source
        self.source = new
        return [(name, self.paper_for(view, old)) for name, view in self.views.items()]

    def paper_for(self, view, old):
        return between(view.behind(self.kind), shown(view, self.kind, old), shown(view, self.kind, self.source))

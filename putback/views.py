"""Views: the plain view, which all views stand under, and chains of views."""

from putback.errors import CantPut, NoView
from putback.values import misfit


def worse(one, other):
    for grade in ("loose", "firm"):
        if one == grade or other == grade:
            return grade
    return "full"


def ask_fit(kind, seen):
    place = misfit(kind, seen)
    if place is not None:
        raise CantPut(place)


def ask_stands(stands):
    if not stands:
        raise NoView([])


def behind_inner(ahead, inner, kind):
    try:
        return inner.behind(kind)
    except NoView as e:
        raise NoView(ahead + e.way) from None


def put_inner(ahead, inner, kind, source, seen):
    try:
        return inner.put(kind, source, seen)
    except CantPut as e:
        raise CantPut(ahead + e.way) from None


def seen_along(steps, kinds, source):
    shown = [source]
    for number, step in enumerate(steps):
        shown.append(step.see(kinds[number], shown[number]))
    return shown


class View:
    def behind(self, kind):
        return kind

    def see(self, kind, source):
        return source

    def put(self, kind, source, seen):
        ask_fit(kind, seen)
        return seen

    def grade(self):
        return "full"

    def keeps(self, name):
        return True


class Chain(View):
    def __init__(self, steps):
        # A list of its own: the one handed in may be changed later.
        self.steps = list(steps)

    def behind(self, kind):
        return self.kinds_row(kind)[-1]

    def see(self, kind, source):
        return self.seen_row(kind, source)[-1]

    def put(self, kind, source, seen):
        return self.put_row(kind, source, seen)[0]

    def grade(self):
        worst = "full"
        for step in self.steps:
            worst = worse(worst, step.grade())
        return worst

    def keeps(self, name):
        return all([step.keeps(name) for step in self.steps])

    def kinds_row(self, kind):
        kinds = [kind]
        for number, step in enumerate(self.steps):
            kinds.append(behind_inner([number], step, kinds[number]))
        return kinds

    def seen_row(self, kind, source):
        return seen_along(self.steps, self.kinds_row(kind), source)

    def put_row(self, kind, source, seen):
        if len(self.steps) == 0:
            ask_fit(kind, seen)
        kinds = self.kinds_row(kind)
        # Each step puts on what it looks at, so nobody asks what the last one shows.
        shown = seen_along(self.steps[:-1], kinds, source)
        told = [seen]
        for number in range(len(self.steps) - 1, -1, -1):
            told = [put_inner([number], self.steps[number], kinds[number], shown[number], told[0])] + told
        return told

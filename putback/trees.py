"""Views of trees: the top knot's value, each knot through a view, and the knots as rows."""

from putback.errors import CantPut
from putback.kinds import rows_of
from putback.values import empty
from putback.views import View, ask_fit, ask_stands, behind_inner, put_inner


class Top(View):
    def behind(self, kind):
        ask_stands(kind[0] == "tree")
        return kind[1]

    def see(self, kind, source):
        return source[0]

    def put(self, kind, source, seen):
        ask_fit(self.behind(kind), seen)
        return (seen, source[1])

    def grade(self):
        return "firm"

    def keeps(self, name):
        return False


class Boughs(View):
    def __init__(self, inner):
        self.inner = inner

    def behind(self, kind):
        ask_stands(kind[0] == "tree")
        return ("tree", behind_inner(["knot"], self.inner, kind[1]))

    def see(self, kind, source):
        return (self.inner.see(kind[1], source[0]), [self.see(kind, arm) for arm in source[1]])

    def put(self, kind, source, seen):
        ask_fit(self.behind(kind), seen)
        return self.put_knots([], kind, source, seen)

    def put_knots(self, ahead, kind, source, seen):
        knot = put_inner(ahead + ["knot"], self.inner, kind[1], source[0], seen[0])
        arms = []
        for number, arm in enumerate(seen[1]):
            # A knot that the source has not is put on the empty knot, which has no arms either.
            old = source[1][number] if number < len(source[1]) else empty(kind)
            arms.append(self.put_knots(ahead + [number], kind, old, arm))
        return (knot, arms)

    def grade(self):
        return "full" if self.inner.grade() == "full" else "loose"

    def keeps(self, name):
        return False


def knots_of(tree, deep):
    knots = [(deep, tree[0])]
    for arm in tree[1]:
        knots.extend(knots_of(arm, deep + 1))
    return knots


class Unroll(View):
    def __init__(self, at, deep, knot):
        self.at = at
        self.deep = deep
        self.knot = knot

    def behind(self, kind):
        ask_stands(kind[0] == "tree" and len(set([self.at, self.deep, self.knot])) == 3)
        return rows_of(self.at, "", [(self.at, ("number",)), (self.deep, ("number",)), (self.knot, kind[1])])

    def see(self, kind, source):
        rows = []
        for deep, value in knots_of(source, 0):
            rows.append({self.at: len(rows), self.deep: deep, self.knot: value})
        return rows

    def put(self, kind, source, seen):
        ask_fit(self.behind(kind), seen)
        self.ask_rows(seen)
        # For each depth the arms among which the next knot of that depth stands; the top stands in a list of its own.
        arms_at = [[]]
        for row in seen:
            deep = row[self.deep]
            tree = (row[self.knot], [])
            arms_at[deep].append(tree)
            arms_at = arms_at[:deep + 1] + [tree[1]]
        return arms_at[0][0]

    def ask_rows(self, rows):
        if len(rows) == 0:
            raise CantPut([])
        deepest = 0
        for number, row in enumerate(rows):
            if row[self.at] != number:
                raise CantPut([number, self.at])
            least = 0 if number == 0 else 1
            if row[self.deep] < least or row[self.deep] > deepest:
                raise CantPut([number, self.deep])
            deepest = row[self.deep] + 1

    def keeps(self, name):
        return False

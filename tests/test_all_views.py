"""Every class of views together: in chains of one to three, and nested in one another, over several kinds."""

import copy
import unittest

from viewcase import N, ViewCase, outcome
from viewpool import LINKED, SOURCES, VIEWS, chains, changed, picked, seen_values

from putback.choices import Case, Choose
from putback.errors import CantPut
from putback.fields import Rename, Within
from putback.joins import Join
from putback.kinds import either_of, kind_at, record_of, rows_of
from putback.tables import Each
from putback.trees import Boughs
from putback.values import empty, misfit
from putback.views import Chain, View


def step_by_step(steps, kind, source, seen):
    """What a chain's put is to tell, asked of its steps alone."""
    shown, kinds = [source], [kind]
    for step in steps:
        shown.append(step.see(kinds[-1], shown[-1]))
        kinds.append(step.behind(kinds[-1]))
    told = [seen]
    for number in range(len(steps) - 1, -1, -1):
        try:
            told.insert(0, steps[number].put(kinds[number], shown[number], told[0]))
        except CantPut as e:
            return ("refused", [number] + e.way)
    return ("new", told)


def last_numbers(view):
    """What stands ahead of a misfit's place: the numbers of the last step, and of the last step of that one."""
    if not isinstance(view, Chain) or not view.steps:
        return []
    return [len(view.steps) - 1] + last_numbers(view.steps[-1])


class ChainsTest(ViewCase):
    def test_where_a_step_does_not_stand(self):
        ways = set()
        for kind, sources in SOURCES:
            for steps, way in chains(kind, VIEWS, 3):
                if way is not None:
                    self.no_view(Chain(steps), kind, way)
                    ways.add(tuple(way))
                    if len(steps) < 3:
                        self.no_view(Chain(steps + VIEWS[4:5]), kind, way)
        for way in (
            (0,), (1,), (2,), (0, 1), (2, 1), (2, "row", 0), (0, "look"), (1, "look", 2), (2, "knot", "look"), (1, "tree", "knot"),
            (2, "in"), (2, "shape", "a"), (1, "yes", "a"), (2, "a"),
        ):
            self.assertIn(way, ways)

    def test_every_class_stands_at_every_step(self):
        found = {(step.__class__, number) for kind, sources in SOURCES for steps, way in chains(kind, VIEWS, 3)
                 if way is None for number, step in enumerate(steps)}
        self.assertEqual(len(found), 3 * len({view.__class__ for view in VIEWS}))
        self.assertEqual(len({view.__class__ for view in VIEWS}), 19)

    def test_laws_of_one_and_two(self):
        for kind, sources in SOURCES:
            for steps, way in chains(kind, VIEWS, 2):
                if way is None:
                    chain = Chain(steps)
                    seens = seen_values(chain, kind, sources, 4)
                    self.lawful(chain, kind, sources[-2:], seens[len(sources):])
                    self.told_step_by_step(chain, kind, sources, seens)

    def test_laws_of_three(self):
        for kind, sources in SOURCES:
            good = [steps for steps, way in chains(kind, VIEWS, 3) if way is None and len(steps) == 3]
            for steps in picked(good, 90):
                chain = Chain(steps)
                seens = seen_values(chain, kind, sources[-2:], 4)
                self.lawful(chain, kind, sources[-2:], seens[2:])
                self.told_step_by_step(chain, kind, sources[-2:], seens)

    def told_step_by_step(self, chain, kind, sources, seens):
        behind = chain.behind(kind)
        for source in sources:
            for seen in seens + [None, [None], {"n": True}]:
                told, thing = step_by_step(chain.steps, kind, source, seen)
                if misfit(behind, seen) is not None:
                    self.assertEqual((told, thing), ("refused", last_numbers(chain) + misfit(behind, seen)))
                if told == "refused":
                    self.refuses(chain, kind, source, seen, thing)
                else:
                    self.assertEqual(chain.put_row(kind, source, seen), thing)
                    self.assertEqual(chain.seen_row(kind, thing[0]), thing)
                    self.assertEqual(chain.put(kind, source, seen), thing[0])


class NestedTest(ViewCase):
    """Each chain of two as an inner view: what comes of it is what comes of the chain, with the outer parts ahead."""

    def inner_chains(self, count):
        for kind, sources in SOURCES:
            good = [steps for steps, way in chains(kind, VIEWS, 2) if way is None]
            for steps in picked(good, count):
                yield Chain(steps), kind, sources

    def faulty_chains(self, count):
        for kind, sources in SOURCES:
            bad = [(steps, way) for steps, way in chains(kind, VIEWS, 2) if way is not None]
            for steps, way in picked(bad, count):
                yield Chain(steps), kind, way

    def test_ways_where_the_inner_view_does_not_stand(self):
        for inner, kind, way in self.faulty_chains(150):
            self.no_view(Within("f", inner), record_of([("f", kind), ("g", N)]), ["f"] + way)
            self.no_view(Boughs(inner), ("tree", kind), ["knot"] + way)
            self.no_view(Case("f", inner), either_of([("f", kind), ("g", N)]), ["f"] + way)
            self.no_view(Choose(("less", ("g",), 5), View(), Within("f", inner)), record_of([("f", kind), ("g", N)]), ["no", "f"] + way)
            self.no_view(Each(Within("f", inner)), rows_of("id", "", [("f", kind), ("id", N)]), ["row", "f"] + way)
            self.no_view(Chain([View(), Boughs(Case("f", inner))]), ("tree", either_of([("f", kind)])), [1, "knot", "f"] + way)

    def same_or_further(self, told, inner_told, ahead, whole):
        """The outer outcome from the inner one: parts ahead of its way, or the new value in its place."""
        if inner_told[0] == "refused":
            self.assertEqual(told, ("refused", ahead + inner_told[1]))
        else:
            self.assertEqual(told, ("new", whole(inner_told[1])))

    def test_what_comes_of_the_inner_view(self):
        for inner, kind, sources in self.inner_chains(40):
            seens = seen_values(inner, kind, sources, 6)
            behind = inner.behind(kind)
            record = record_of([("f", kind), ("g", N)])
            rows = rows_of("id", "", [("f", kind), ("id", N)])
            shape = either_of([("f", kind), ("g", N)])
            self.stands(Within("f", inner), record, record_of([("f", behind), ("g", N)]))
            self.stands(Each(Within("f", inner)), rows, rows_of("id", "", [("f", behind), ("id", N)]))
            self.stands(Boughs(inner), ("tree", kind), ("tree", behind))
            self.stands(Case("f", inner), shape, either_of([("f", behind), ("g", N)]))
            for source in sources:
                for seen in seens:
                    told = outcome(inner, kind, source, seen)
                    fresh = outcome(inner, kind, empty(kind), seen)
                    self.same_or_further(
                        outcome(Within("f", inner), record, {"f": source, "g": 1}, {"f": seen, "g": 2}), told, ["f"],
                        lambda new: {"f": new, "g": 2})
                    self.same_or_further(
                        outcome(Each(Within("f", inner)), rows, [{"f": source, "id": 2}], [{"f": seen, "id": 2}]), told, [0, "f"],
                        lambda new: [{"f": new, "id": 2}])
                    self.same_or_further(
                        outcome(Each(Within("f", inner)), rows, [{"f": source, "id": 2}], [{"f": seen, "id": 1}]), fresh, [0, "f"],
                        lambda new: [{"f": new, "id": 1}])
                    self.same_or_further(
                        outcome(Boughs(inner), ("tree", kind), (source, []), (seen, [])), told, ["knot"], lambda new: (new, []))
                    self.same_or_further(
                        outcome(Case("f", inner), shape, ("f", source), ("f", seen)), told, ["f"], lambda new: ("f", new))
                    self.same_or_further(
                        outcome(Case("f", inner), shape, ("g", 1), ("f", seen)), fresh, ["f"], lambda new: ("f", new))
                    self.same_or_further(
                        outcome(Choose(("less", ("g",), 5), Within("f", inner), Within("f", inner)), record,
                                {"f": source, "g": 1}, {"f": seen, "g": 2}), told, ["yes", "f"], lambda new: {"f": new, "g": 2})

    def test_laws(self):
        for inner, kind, sources in self.inner_chains(25):
            seens = picked(seen_values(inner, kind, sources[-2:], 4), 5)
            source, other = sources[-1], sources[-2]
            record = record_of([("f", kind), ("g", N)])
            look = ("less", ("g",), 5)
            for view in (Within("f", inner), Choose(look, Within("f", inner), Chain([Within("f", inner)]))):
                self.lawful(view, record, [{"f": source, "g": 1}, {"f": other, "g": 8}], [{"f": seen, "g": 2} for seen in seens])

    def test_put_twice_where_it_is_promised(self):
        """Of Each, Boughs and Case with a firm inner view."""
        firm = 0
        for inner, kind, sources in self.inner_chains(60):
            if inner.grade() == "loose":
                continue
            firm += 1
            seens = picked(seen_values(inner, kind, sources[-2:], 4), 4)
            source, other = sources[-1], sources[-2]
            shape = either_of([("f", kind), ("g", N)])
            self.asked_twice(Case("f", inner), shape, [("f", source), ("f", other), ("g", 3)], [("f", seen) for seen in seens] + [("g", 4)],
                             lambda source, first, second: not (source[0] == "f" and second[0] == "f" and first[0] != "f"))
            rows = rows_of("id", "", [("f", kind), ("id", N)])
            some = [[{"f": seens[0], "id": 1}], [{"f": seens[1], "id": 1}, {"f": seens[-1], "id": 2}], [{"f": seens[-1], "id": 2}], []]
            self.asked_twice(Each(Within("f", inner)), rows, [[{"f": source, "id": 1}, {"f": other, "id": 2}], [{"f": other, "id": 2}], []],
                             some, lambda source, first, second: keys(source) & keys(second) <= keys(first))
            trees = [(seens[0], []), (seens[1], [(seens[-1], [])]), (seens[-1], [(seens[0], []), (seens[1], [(seens[0], [])])])]
            self.asked_twice(Boughs(inner), ("tree", kind), [(source, []), (other, [(source, [(other, [])])])], trees,
                             lambda source, first, second: knots(source) & knots(second) <= knots(first))
        self.assertGreater(firm, 50)

    def test_put_twice_through_a_join_in_a_field(self):
        """What [34] tells of a second put holds of a join within other views too."""
        kind = record_of([("f", LINKED), ("g", N)])
        source = SOURCES[3][1][1]
        view = Chain([Rename("g", "h"), Within("f", Chain([Join("left", "right", "w"), View()]))])
        shown = Join("left", "right", "w").see(LINKED, source)
        seens = [{"f": seen, "h": 2} for seen in [shown] + changed(Join("left", "right", "w").behind(LINKED), shown)]

        def told_by_link(rows):
            return {held["w"]: {"w": held["w"], "x": held["x"]} for held in rows}

        def promised(source, first, second):
            if outcome(view, kind, source, second)[0] == "refused":
                return True
            held = {old["w"]: old for old in source["f"]["right"]}
            told, later = told_by_link(first["f"]["left"]), told_by_link(second["f"]["left"])
            return all(held.get(w) == told[w] for w in told if w not in later)

        counts = self.asked_twice(view, kind, [{"f": source, "g": 1}], seens, promised)
        self.assertEqual(counts[True], 0)
        self.assertGreater(counts[False], 0)


def keys(rows):
    return {held["id"] for held in rows}


def knots(tree, ahead=()):
    told = {ahead}
    for number, arm in enumerate(tree[1]):
        told |= knots(arm, ahead + (number,))
    return told


class KeepsTest(ViewCase):
    def test_what_is_kept_is_passed_on(self):
        """[20], of every chain of one or two that stands on a record kind."""
        asked = 0
        for kind, sources in SOURCES:
            if kind[0] != "record":
                continue
            for steps, way in chains(kind, VIEWS, 2):
                if way is not None:
                    continue
                chain = Chain(steps)
                behind = chain.behind(kind)
                for name, inner in kind[1]:
                    if not chain.keeps(name):
                        continue
                    asked += 1
                    self.assertEqual(kind_at(behind[1], name), inner)
                    for source in sources:
                        self.assertEqual(chain.see(kind, source)[name], source[name])
                        for seen in seen_values(chain, kind, sources, 6):
                            told, new = outcome(chain, kind, source, copy.deepcopy(seen))
                            if told == "new":
                                self.assertEqual(new[name], seen[name])
        self.assertGreater(asked, 50)


if __name__ == "__main__":
    unittest.main()

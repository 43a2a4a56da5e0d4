"""The desk: views that hang over one source, and deeds."""

import copy
import unittest

from viewcase import N, ONE_OF_EACH, ROW, ROWS, THINGS, W, ViewCase, spoiled, told_or_refused
from viewpool import LINKED, NEST, SHAPE, SOURCES, TREE, VIEWS, chains, changed, pair, picked, right, row

from putback.choices import Case, Choose
from putback.desk import Desk
from putback.errors import CantPut, NoDeed, NoFit, NoName, NoPaper, NoView, Twice, ViewError
from putback.fields import At, Rename, Take, Within
from putback.joins import Join
from putback.kinds import record_of, rows_of
from putback.papers import between, done
from putback.tables import Beside, Each, Group, Keep, Order
from putback.trees import Boughs, Top, Unroll
from putback.values import empty, misfit
from putback.views import Chain, View

FEW = ("less", ("n",), 5)
SIXTY_NAMES = [first + second for first in "abcdef" for second in "abcdefghij"]


def people():
    return [{"id": 1, "name": "bo"}, {"id": 2, "name": "al"}]


def linked():
    return {"left": [row(1, 1, "p"), row(2, 7, "z")], "n": 3, "right": [right("p", 5)]}


def wreck(thing):
    """Changes every dict and every list that can be reached from the thing."""
    if isinstance(thing, dict):
        for part in thing.values():
            wreck(part)
        for name in list(thing):
            thing[name] = "wrecked"
        thing["wreck"] = None
    if isinstance(thing, (list, tuple)):
        for part in thing:
            wreck(part)
    if isinstance(thing, list):
        thing.reverse()
        thing.append("wrecked")


class DeskCase(ViewCase):
    def look_of(self, desk):
        """All that a desk tells without a deed."""
        return copy.deepcopy((desk.source_now(), [(name, desk.seen_by(name)) for name in desk.hung()]))

    def refused(self, refusal, ask, *given):
        with self.assertRaises(ViewError) as caught:
            ask(*given)
        self.assertIs(caught.exception.__class__, refusal)
        return caught.exception

    def told_well(self, desk, kind, views, deed, *given):
        """The deed is done, and what it tells of each view leads from what the view showed to what it shows."""
        source, shown = self.look_of(desk)
        told = deed(*given)
        self.assertIs(told.__class__, list)
        self.assertEqual([name for name, paper in told], [name for name, seen in shown])
        for item, (name, old) in zip(told, shown):
            self.assertIs(item.__class__, tuple)
            self.assertEqual(item[0], name)
            behind = views[name].behind(kind)
            self.assertEqual(item[1], between(behind, old, desk.seen_by(name)))
            self.assertEqual(done(behind, item[1], old), desk.seen_by(name))
        self.assertIsNone(misfit(kind, desk.source_now()))


class MadeTest(DeskCase):
    def test_the_source_left_out_or_none(self):
        for kind in ONE_OF_EACH + [kind for kind, sources in SOURCES]:
            for desk in (Desk(kind), Desk(kind, None), Desk(kind, source=None)):
                self.assertEqual(desk.source_now(), empty(kind))
                self.assertEqual(desk.hung(), [])
                self.refused(NoDeed, desk.undo)

    def test_a_source_handed_in(self):
        for kind, sources in SOURCES:
            for source in sources:
                held = copy.deepcopy(source)
                self.assertEqual(Desk(kind, source).source_now(), held)
                self.assertEqual(Desk(kind=kind, source=source).source_now(), held)
                self.assertEqual(source, held)

    def test_a_source_that_does_not_fit(self):
        places = set()
        for kind, sources in SOURCES:
            for thing in THINGS + spoiled(sources[-1]):
                place = misfit(kind, thing)
                if thing is not None and place is not None:
                    held = copy.deepcopy(thing)
                    refusal = self.refused(NoFit, Desk, kind, thing)
                    self.assertEqual(refusal.way, place)
                    self.assertIs(refusal.way.__class__, list)
                    self.assertEqual(thing, held)
                    places.add(tuple(place))
        for place in ((), (1, "id"), (1,), ("left", 2, "w"), ("knot", "n"), (0, 0, "knot"), ("a", "w"), ("shape", "c", 0)):
            self.assertIn(place, places)

    def test_ways(self):
        self.assertEqual(self.refused(NoFit, Desk, N, "x").way, [])
        self.assertEqual(self.refused(NoFit, Desk, N, False).way, [])
        self.assertEqual(self.refused(NoFit, Desk, ROWS, people()[::-1]).way, [1])
        self.assertEqual(self.refused(NoFit, Desk, ROW, {"id": 1, "name": None}).way, ["name"])
        self.assertEqual(self.refused(NoFit, Desk, ("tree", N), (1, [(2, []), ("x", [])])).way, [1, "knot"])
        self.assertEqual(self.refused(NoFit, Desk, record_of([]), []).way, [])

    def test_false_things_are_no_none(self):
        self.assertEqual(self.refused(NoFit, Desk, ROWS, {}).way, [])
        self.assertEqual(self.refused(NoFit, Desk, ROW, []).way, [])
        self.assertEqual(Desk(ROWS, []).source_now(), [])
        self.assertEqual(Desk(N, 0).source_now(), 0)
        self.assertEqual(self.refused(NoFit, Desk, W, 0).way, [])


class HangingTest(DeskCase):
    def test_in_the_order_of_hanging(self):
        desk = Desk(ROWS, people())
        self.assertIsNone(desk.hang("zz", View()))
        self.assertIsNone(desk.hang("a", Order("name")))
        desk.hang("m", Keep(("less", ("id",), 2)))
        self.assertEqual(desk.hung(), ["zz", "a", "m"])
        self.assertEqual(desk.seen_by("zz"), people())
        self.assertEqual(desk.seen_by("a"), people()[::-1])
        self.assertEqual(desk.seen_by("m"), people()[:1])
        self.assertIsNone(desk.take_down("zz"))
        self.assertEqual(desk.hung(), ["a", "m"])
        desk.hang("zz", View())
        self.assertEqual(desk.hung(), ["a", "m", "zz"])
        desk.take_down("m")
        desk.hang("m", Order())
        self.assertEqual(desk.hung(), ["a", "zz", "m"])
        self.assertEqual(desk.seen_by("m"), people())
        self.assertEqual([name for name, paper in desk.change([])], ["a", "zz", "m"])

    def test_one_view_under_two_names(self):
        desk, view = Desk(ROWS, people()), Order("name")
        desk.hang("a", view)
        desk.hang("b", view)
        self.assertEqual(desk.seen_by("a"), desk.seen_by("b"))
        self.assertEqual(desk.change([("cut", (), 1)]), [("a", [("cut", (), 1)]), ("b", [("cut", (), 1)])])
        desk.take_down("a")
        self.assertEqual(desk.hung(), ["b"])

    def test_twice(self):
        desk = Desk(ROWS, people())
        desk.hang("a", View())
        self.refused(Twice, desk.hang, "a", Order("name"))
        self.refused(Twice, desk.hang, "a", View())
        self.assertEqual(desk.hung(), ["a"])
        self.assertEqual(desk.seen_by("a"), people())
        desk.take_down("a")
        desk.hang("a", Order("name"))
        self.assertEqual(desk.seen_by("a"), people()[::-1])

    def test_a_view_that_does_not_stand(self):
        desk = Desk(ROWS, people())
        self.assertEqual(self.refused(NoView, desk.hang, "a", At("id")).way, [])
        self.assertEqual(self.refused(NoView, desk.hang, "a", Chain([View(), Each(At("zz"))])).way, [1, "row"])
        self.assertEqual(self.refused(NoView, desk.hang, "a", Keep(("not", ("some", ("id",))))).way, ["look", 1])
        self.assertEqual(desk.hung(), [])
        self.refused(NoName, desk.seen_by, "a")
        desk.hang("a", View())
        self.assertEqual(desk.hung(), ["a"])

    def test_every_view_that_does_not_stand(self):
        for kind, sources in SOURCES:
            desk = Desk(kind, sources[-1])
            for steps, way in chains(kind, VIEWS, 2):
                if way is not None:
                    refusal = self.refused(NoView, desk.hang, "a", Chain(steps))
                    self.assertEqual(refusal.way, way)
            self.assertEqual(desk.hung(), [])

    def test_twice_goes_ahead_of_no_view(self):
        desk = Desk(ROWS, people())
        desk.hang("a", View())
        self.refused(Twice, desk.hang, "a", At("id"))
        self.refused(NoView, desk.hang, "b", At("id"))

    def test_a_strange_name(self):
        desk = Desk(ROWS, people())
        desk.hang("a", View())
        desk.hang("b", View())
        desk.take_down("b")
        for name in ("b", "c", "aa", "id", "name"):
            self.refused(NoName, desk.take_down, name)
            self.refused(NoName, desk.seen_by, name)
            self.refused(NoName, desk.put_by, name, people())
            for thing in THINGS:
                self.refused(NoName, desk.put_by, name, thing)
        self.assertEqual(desk.hung(), ["a"])
        self.refused(NoDeed, desk.undo)

    def test_take_down_twice(self):
        desk = Desk(N, 1)
        desk.hang("a", View())
        desk.take_down("a")
        self.refused(NoName, desk.take_down, "a")
        self.assertEqual(desk.hung(), [])


class DeedsTest(DeskCase):
    def test_a_put_tells_every_view(self):
        desk = Desk(LINKED, linked())
        desk.hang("joined", Join("left", "right", "w"))
        desk.hang("few", Chain([At("left"), Keep(FEW)]))
        desk.hang("n", At("n"))
        desk.hang("sum", Chain([At("right"), Beside("x", "all", "sum")]))
        seen = {"left": [{"id": 1, "n": 8, "w": "p", "x": 6}, {"id": 9, "n": 2, "w": "q", "x": 1}], "n": 3}
        self.assertEqual(desk.put_by("joined", seen), [
            ("joined", [("set", ("left", 1, "n"), 8), ("set", ("left", 1, "x"), 6),
                        ("add", ("left",), {"id": 9, "n": 2, "w": "q", "x": 1})]),
            ("few", [("cut", (), 1), ("add", (), row(9, 2, "q"))]),
            ("n", []),
            ("sum", [("set", ("all", "p", "x"), 6), ("add", ("all",), right("q", 1)), ("set", ("sum",), 7)]),
        ])
        self.assertEqual(desk.source_now(), {
            "left": [row(1, 8, "p"), row(2, 7, "z"), row(9, 2, "q")], "n": 3, "right": [right("p", 6), right("q", 1)]})
        self.assertEqual(desk.seen_by("joined"), seen)
        self.assertEqual(desk.seen_by("few"), [row(9, 2, "q")])

    def test_a_paper_tells_every_view(self):
        desk = Desk(LINKED, linked())
        desk.hang("n", At("n"))
        desk.hang("all", View())
        desk.hang("left", At("left"))
        paper = [("set", ("n",), 9), ("set", ("n",), 4), ("cut", ("left",), 1)]
        self.assertEqual(desk.change(paper), [
            ("n", [("set", (), 4)]),
            ("all", [("cut", ("left",), 1), ("set", ("n",), 4)]),
            ("left", [("cut", (), 1)]),
        ])
        self.assertEqual(desk.source_now(), {"left": [row(2, 7, "z")], "n": 4, "right": [right("p", 5)]})

    def test_no_views(self):
        desk = Desk(N, 1)
        self.assertEqual(desk.change([("set", (), 2)]), [])
        self.assertEqual(desk.source_now(), 2)
        self.assertEqual(desk.undo(), [])
        self.assertEqual(desk.source_now(), 1)

    def test_refused_deeds_change_nothing(self):
        desk = Desk(LINKED, linked())
        desk.hang("few", Chain([At("left"), Keep(FEW)]))
        desk.hang("all", View())
        held = self.look_of(desk)
        self.assertEqual(self.refused(CantPut, desk.put_by, "few", [row(2, 1)]).way, [1, 0])
        self.assertEqual(self.refused(CantPut, desk.put_by, "few", None).way, [1])
        self.assertEqual(self.refused(CantPut, desk.put_by, "few", [row(1, 9)]).way, [1, 0])
        self.assertEqual(self.refused(CantPut, desk.put_by, "all", {**linked(), "n": "x"}).way, ["n"])
        self.assertEqual(self.refused(NoPaper, desk.change, [("set", ("n",), 5), ("cut", ("left",), 1), ("cut", ("left",), 1)]).at, 2)
        self.assertEqual(self.refused(NoPaper, desk.change, [("trim", ())]).at, 0)
        self.assertEqual(self.look_of(desk), held)
        self.refused(NoDeed, desk.undo)
        self.assertEqual(self.look_of(desk), held)

    def test_a_put_that_changes_nothing_is_a_deed(self):
        desk = Desk(ROWS, people())
        desk.hang("a", Order("name"))
        desk.hang("b", View())
        self.assertEqual(desk.put_by("a", desk.seen_by("a")), [("a", []), ("b", [])])
        self.assertEqual(desk.undo(), [("a", []), ("b", [])])
        self.refused(NoDeed, desk.undo)

    def test_a_paper_of_no_steps_is_a_deed(self):
        desk = Desk(ROWS, people())
        desk.hang("a", Order("name"))
        desk.hang("b", View())
        desk.change([("cut", (), 1)])
        self.assertEqual(desk.change([]), [("a", []), ("b", [])])
        self.assertEqual(desk.undo(), [("a", []), ("b", [])])
        self.assertEqual(desk.source_now(), people()[1:])
        desk.undo()
        self.assertEqual(desk.source_now(), people())
        self.refused(NoDeed, desk.undo)

    def test_undo_deed_by_deed(self):
        desk = Desk(ROWS, people())
        views = {"a": View(), "few": Keep(("less", ("id",), 2))}
        for name in views:
            desk.hang(name, views[name])
        sources = [desk.source_now()]
        for deed, given in ((desk.change, ([("cut", (), 2)],)), (desk.put_by, ("a", [])), (desk.put_by, ("few", [{"id": 0, "name": "q"}])),
                            (desk.change, ([("add", (), {"id": 7, "name": "x"}), ("set", (0, "name"), "y")],))):
            self.told_well(desk, ROWS, views, deed, *given)
            sources.append(desk.source_now())
        self.assertEqual(sources[-1], [{"id": 0, "name": "y"}, {"id": 7, "name": "x"}])
        for source in sources[-2::-1]:
            self.told_well(desk, ROWS, views, desk.undo)
            self.assertEqual(desk.source_now(), source)
        self.refused(NoDeed, desk.undo)
        self.assertEqual(desk.source_now(), people())

    def test_what_undo_tells(self):
        desk = Desk(ROWS, people())
        desk.hang("a", View())
        desk.hang("few", Keep(("less", ("id",), 2)))
        desk.change([("set", (1, "name"), "x"), ("cut", (), 2)])
        self.assertEqual(desk.undo(), [("a", [("set", (1, "name"), "bo"), ("add", (), {"id": 2, "name": "al"})]),
                                       ("few", [("set", (1, "name"), "bo")])])

    def test_on_from_an_undone_deed(self):
        desk = Desk(N, 1)
        desk.hang("a", View())
        for number in (2, 3, 4):
            desk.change([("set", (), number)])
        desk.undo()
        desk.undo()
        desk.change([("set", (), 9)])
        self.assertEqual(desk.undo(), [("a", [("set", (), 2)])])
        self.assertEqual(desk.undo(), [("a", [("set", (), 1)])])
        self.refused(NoDeed, desk.undo)
        self.refused(NoDeed, desk.undo)
        desk.put_by("a", 5)
        self.assertEqual(desk.undo(), [("a", [("set", (), 1)])])
        self.refused(NoDeed, desk.undo)
        self.assertEqual(desk.source_now(), 1)

    def test_hanging_and_taking_down_are_no_deeds(self):
        desk = Desk(ROWS, people())
        desk.hang("a", View())
        self.refused(NoDeed, desk.undo)
        desk.put_by("a", [])
        desk.take_down("a")
        desk.hang("b", Order("name"))
        desk.hang("c", View())
        desk.take_down("c")
        adds = [("add", (), {"id": 1, "name": "bo"}), ("add", (), {"id": 2, "name": "al"})]
        self.assertEqual(desk.undo(), [("b", adds)])
        self.assertEqual(desk.hung(), ["b"])
        self.assertEqual(desk.seen_by("b"), people()[::-1])
        self.refused(NoDeed, desk.undo)

    def test_a_refused_deed_is_not_undone(self):
        desk = Desk(N, 1)
        desk.hang("a", View())
        desk.put_by("a", 2)
        self.refused(CantPut, desk.put_by, "a", "x")
        self.refused(NoPaper, desk.change, [("trim", ())])
        self.refused(NoName, desk.put_by, "b", 3)
        desk.undo()
        self.assertEqual(desk.source_now(), 1)


class CopiesTest(DeskCase):
    """Nothing done later to what was handed in, or to what was told, changes the desk; nor the desk those."""

    def views(self):
        return [("all", View()), ("left", At("left")), ("joined", Join("left", "right", "w")), ("nested", Chain([])),
                ("few", Within("left", Keep(FEW))), ("groups", Chain([At("left"), Group("w", "in")]))]

    def desk(self, source):
        desk = Desk(LINKED, source)
        for name, view in self.views():
            desk.hang(name, view)
        return desk

    def test_the_source(self):
        source = linked()
        desk = self.desk(source)
        held = self.look_of(desk)
        wreck(source)
        self.assertEqual(self.look_of(desk), held)
        self.assertEqual(desk.source_now(), linked())

    def test_what_is_told(self):
        desk = self.desk(linked())
        held = self.look_of(desk)
        wreck(desk.source_now())
        wreck(desk.hung())
        for name in desk.hung():
            wreck(desk.seen_by(name))
        self.assertEqual(self.look_of(desk), held)

    def test_the_empty_source(self):
        kind = record_of([("a", ROWS), ("b", record_of([("c", ("tree", ROW))]))])
        desk = Desk(kind)
        wreck(desk.source_now())
        self.assertEqual(desk.source_now(), empty(kind))
        self.assertEqual(Desk(kind).source_now(), empty(kind))

    def test_what_is_put(self):
        for name, view in self.views():
            desk = self.desk(linked())
            behind = view.behind(LINKED)
            seen = desk.seen_by(name)
            for part in changed(behind, seen):
                part = copy.deepcopy(part)
                if told_or_refused(desk.put_by, name, part)[0] == "told":
                    held = self.look_of(desk)
                    self.assertEqual(desk.seen_by(name), part)
                    wreck(part)
                    self.assertEqual(self.look_of(desk), held)
                    desk.undo()
                    self.assertEqual(desk.source_now(), linked())

    def test_a_put_leaves_the_seen_value(self):
        desk = self.desk(linked())
        seen = {**linked(), "left": [row(1, 4)]}
        held = copy.deepcopy(seen)
        desk.put_by("all", seen)
        desk.change([("set", ("left", 1, "n"), 7), ("cut", ("right",), "p")])
        desk.undo()
        self.assertEqual(seen, held)

    def test_papers_handed_in(self):
        desk = self.desk(linked())
        paper = [("add", ("left",), row(7, 1)), ("add", ("right",), right("q")), ("set", ("left", 7, "n"), 2)]
        held = copy.deepcopy(paper)
        desk.change(paper)
        shown = self.look_of(desk)
        self.assertEqual(paper, held)
        wreck(paper)
        self.assertEqual(self.look_of(desk), shown)
        desk.undo()
        self.assertEqual(desk.source_now(), linked())

    def test_papers_with_trees_and_shapes(self):
        kind = NEST
        source = SOURCES[-1][1][0]
        desk = Desk(kind, source)
        desk.hang("all", View())
        desk.hang("tree", At("tree"))
        paper = [("grow", ("tree",), (pair(1), [(pair(2), [])])), ("set", ("shape",), ("c", [row(1), row(2)])),
                 ("set", ("tree", 1, 0, "knot", "n"), 6), ("add", ("shape", "c"), row(5))]
        held = copy.deepcopy(paper)
        told = desk.change(paper)
        self.assertEqual(paper, held)
        shown = self.look_of(desk)
        wreck(paper)
        wreck(told)
        self.assertEqual(self.look_of(desk), shown)
        wreck(desk.undo())
        self.assertEqual(desk.source_now(), source)

    def test_papers_told(self):
        desk = self.desk(linked())
        first = desk.change([("add", ("left",), row(7, 1)), ("add", ("right",), right("z"))])
        held, shown = copy.deepcopy(first), self.look_of(desk)
        self.assertNotEqual(held[0][1], [])
        wreck(first[0])
        self.assertEqual(first[1:], held[1:])
        wreck(first)
        self.assertEqual(self.look_of(desk), shown)
        wreck(desk.undo())
        self.assertEqual(desk.source_now(), linked())
        wreck(desk.put_by("all", {"left": [], "n": 0, "right": []}))
        self.assertEqual(desk.source_now(), {"left": [], "n": 0, "right": []})
        told = desk.undo()
        shown = self.look_of(desk)
        wreck(told)
        self.assertEqual(self.look_of(desk), shown)
        self.assertEqual(desk.source_now(), linked())

    def test_what_is_told_stays_as_the_desk_goes_on(self):
        desk = self.desk(linked())
        source, seen = desk.source_now(), desk.seen_by("all")
        told = desk.change([("add", ("left",), row(7, 1))])
        held = copy.deepcopy((source, seen, told))
        desk.change([("set", ("left", 7, "n"), 2), ("set", ("left", 1, "n"), 3)])
        desk.put_by("left", [])
        desk.undo()
        desk.undo()
        self.assertEqual((source, seen, told), held)

    def test_a_paper_of_a_desk_handed_to_another(self):
        desk, other = self.desk(linked()), self.desk(linked())
        told = dict(desk.change([("add", ("left",), row(7, 1)), ("set", ("left", 7, "w"), "z")]))
        other.change(told["all"])
        self.assertEqual(self.look_of(other), self.look_of(desk))
        other.change([("set", ("left", 7, "n"), 9)])
        self.assertEqual(told["all"], [("add", ("left",), row(7, 1, "z"))])
        self.assertEqual(desk.source_now()["left"][2], row(7, 1, "z"))

    def test_refusals(self):
        desk = self.desk(linked())
        held = self.look_of(desk)
        for refusal in (self.refused(CantPut, desk.put_by, "all", {**linked(), "left": [row(2), row(1)]}),
                        self.refused(NoView, desk.hang, "new", Within("left", At("zz")))):
            refusal.way.append("more")
        self.assertEqual(self.refused(CantPut, desk.put_by, "all", {**linked(), "left": [row(2), row(1)]}).way, ["left", 1])
        self.assertEqual(self.refused(NoView, desk.hang, "new", Within("left", At("zz"))).way, ["left"])
        self.assertEqual(self.look_of(desk), held)

    def test_two_desks_side_by_side(self):
        source = linked()
        one, other = self.desk(source), self.desk(source)
        third = Desk(LINKED)
        one.change([("cut", ("left",), 1)])
        one.take_down("few")
        third.hang("mine", View())
        self.assertEqual(other.source_now(), linked())
        self.assertEqual(other.hung(), [name for name, view in self.views()])
        self.assertEqual(third.hung(), ["mine"])
        self.refused(NoDeed, other.undo)
        self.refused(NoDeed, third.undo)
        other.put_by("all", {"left": [], "n": 0, "right": []})
        self.assertEqual(one.source_now()["left"], [row(2, 7, "z")])
        self.assertEqual(source, linked())


class Model:
    """A slow desk: what each deed is to leave and to tell, from the views themselves."""

    def __init__(self, kind, source):
        self.kind, self.sources, self.views = kind, [copy.deepcopy(source)], []

    def told(self, old):
        return [(name, between(view.behind(self.kind), view.see(self.kind, old), view.see(self.kind, self.sources[-1])))
                for name, view in self.views]

    def hang(self, name, view):
        if name in [other for other, held in self.views]:
            return ("Twice", [])
        told = told_or_refused(view.behind, self.kind)
        if told[0] != "told":
            return told
        self.views.append((name, view))
        return ("told", None)

    def take_down(self, name):
        if name not in [other for other, held in self.views]:
            return ("NoName", [])
        self.views = [(other, held) for other, held in self.views if other != name]
        return ("told", None)

    def put_by(self, name, seen):
        if name not in [other for other, held in self.views]:
            return ("NoName", [])
        return self.did(told_or_refused(dict(self.views)[name].put, self.kind, self.sources[-1], seen))

    def change(self, paper):
        return self.did(told_or_refused(done, self.kind, paper, self.sources[-1]))

    def did(self, outcome):
        if outcome[0] != "told":
            return outcome
        old = self.sources[-1]
        self.sources.append(copy.deepcopy(outcome[1]))
        return ("told", self.told(old))

    def undo(self):
        if len(self.sources) == 1:
            return ("NoDeed", [])
        return ("told", self.told(self.sources.pop()))


class WalkTest(DeskCase):
    """Long rows of hanging, taking down, deeds and undoing, held against the model."""

    NAMES = ["a", "b", "c", "d", "e", "f"]

    def turns(self, seed):
        """Numbers that look like chance, the same in every run."""
        state = seed
        while True:
            state = (state * 1103515245 + 12345) % 2147483648
            yield state // 65536

    def test_walks(self):
        counts = {}
        for kind, sources in SOURCES:
            good = [Chain(steps) if len(steps) > 1 else steps[0] for steps, way in chains(kind, VIEWS, 2) if way is None]
            for seed in range(3):
                self.walk(kind, sources, good, self.turns(seed), counts)
        for told in (("hang", "told"), ("hang", "Twice"), ("hang", "NoView"), ("take_down", "told"), ("take_down", "NoName"),
                     ("put_by", "told"), ("put_by", "NoName"), ("put_by", "CantPut"), ("change", "told"), ("change", "NoPaper"),
                     ("undo", "told"), ("undo", "NoDeed")):
            self.assertGreater(counts.get(told, 0), 10, told)

    def walk(self, kind, sources, views, turns, counts):
        desk, model = Desk(kind, sources[0]), Model(kind, sources[0])
        for step in range(120):
            self.assertEqual(desk.source_now(), model.sources[-1])
            self.assertEqual(desk.hung(), [name for name, view in model.views])
            for name, view in model.views:
                self.assertEqual(desk.seen_by(name), view.see(kind, model.sources[-1]))
            deed, given = self.next_deed(kind, sources, views, model, turns)
            told = told_or_refused(vars(Desk)[deed], desk, *given)
            self.assertEqual(told, vars(Model)[deed](model, *given), (deed, given))
            counts[(deed, told[0])] = counts.get((deed, told[0]), 0) + 1
            wreck(told)

    def next_deed(self, kind, sources, views, model, turns):
        turn, pick = next(turns) % 10, next(turns)
        name = self.NAMES[next(turns) % len(self.NAMES)]
        if turn < 3:
            return "hang", (name, (VIEWS if pick % 4 == 0 else views)[next(turns) % len(VIEWS if pick % 4 == 0 else views)])
        if turn == 3:
            return "take_down", (name,)
        if turn < 6:
            return "undo", ()
        old = model.sources[-1]
        if turn < 8:
            others = changed(kind, old) + sources
            paper = between(kind, old, others[pick % len(others)])
            return "change", (copy.deepcopy(paper + ([("trim", ("no",))] if pick % 5 == 0 else [])),)
        seen = None
        for hung, view in model.views:
            if hung == name:
                others = changed(view.behind(kind), view.see(kind, old))
                seen = copy.deepcopy(others[pick % len(others)]) if others else seen
        return "put_by", (name, seen)


class BoundsTest(DeskCase):
    def test_sixty_views_and_two_hundred_deeds(self):
        kind = rows_of("id", "", [("id", N), ("n", N), ("w", W)])
        desk = Desk(kind, [row(number, number) for number in range(10)])
        pool = [Keep(FEW), View(), Order("n"), Each(Take(["id", "n"])), Beside("n", "all", "sum"), Chain([Order("w"), Group("n", "in")])]
        for number, name in enumerate(SIXTY_NAMES):
            desk.hang(name, pool[number % len(pool)])
        self.assertEqual(desk.hung(), SIXTY_NAMES)
        sources = []
        for number in range(200):
            sources.append(desk.source_now())
            if number % 3 == 0:
                told = desk.put_by("aa", [row(number % 10, 1), row(number + 100, 2)] if number % 10 < 5 else [])
            else:
                told = desk.change([("set", (9, "n"), number + 10)])
            self.assertEqual([name for name, paper in told], SIXTY_NAMES)
        for source in sources[::-1]:
            desk.undo()
            self.assertEqual(desk.source_now(), source)
        self.refused(NoDeed, desk.undo)

    def test_deep_values(self):
        tree = (pair(1), [])
        for number in range(57):
            tree = (pair(number), [tree])
        desk = Desk(TREE, tree)
        desk.hang("all", View())
        desk.hang("boughs", Boughs(Take(["n"])))
        desk.hang("rows", Unroll("at", "deep", "in"))
        desk.hang("top", Chain([Top(), Rename("n", "m")]))
        path = (0,) * 57
        told = dict(desk.change([("set", path + ("knot", "n"), 99)]))
        self.assertEqual(told["boughs"], [("set", path + ("knot", "n"), 99)])
        self.assertEqual(told["rows"], [("set", (57, "in", "n"), 99)])
        self.assertEqual(told["top"], [])
        desk.undo()
        self.assertEqual(desk.source_now(), tree)

    def test_shapes(self):
        desk = Desk(SHAPE)
        desk.hang("case", Case("a", At("n")))
        desk.hang("either", Choose(("is", (), "b"), View(), View()))
        self.assertEqual(desk.put_by("case", ("b", 7)), [("case", [("set", (), ("b", 7))]), ("either", [("set", (), ("b", 7))])])
        self.assertEqual(self.refused(CantPut, desk.put_by, "either", ("a", pair(1))).way, [])
        self.assertEqual(desk.undo(), [("case", [("set", (), ("a", 0))]), ("either", [("set", (), ("a", pair(0, "")))])])
        self.assertEqual(desk.put_by("either", ("a", pair(3))),
                         [("case", [("set", ("a",), 3)]), ("either", [("set", ("a", "n"), 3), ("set", ("a", "w"), "p")])])


class EveryViewTest(DeskCase):
    def test_deeds_over_views_of_every_class(self):
        """Each view that stands hangs, in turn each one puts, and a paper is done: all others are told rightly."""
        for kind, sources in SOURCES:
            desk = Desk(kind, sources[-1])
            good = [Chain(steps) for steps, way in chains(kind, VIEWS, 2) if way is None]
            views = {letters: view for letters, view in zip(SIXTY_NAMES, picked(good, 60))}
            for name in views:
                desk.hang(name, views[name])
            for name in desk.hung()[::3]:
                for seen in picked(changed(views[name].behind(kind), desk.seen_by(name)), 2):
                    if told_or_refused(views[name].put, kind, desk.source_now(), seen)[0] == "told":
                        self.told_well(desk, kind, views, desk.put_by, name, seen)
            for other in picked(changed(kind, desk.source_now()), 3):
                self.told_well(desk, kind, views, desk.change, between(kind, desk.source_now(), other))
            while told_or_refused(desk.undo)[0] == "told":
                pass
            self.assertEqual(desk.source_now(), sources[-1])


if __name__ == "__main__":
    unittest.main()

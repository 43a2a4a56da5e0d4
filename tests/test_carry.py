"""Papers carried on and back through views."""

import copy
import unittest

from viewcase import N, ROW, ROWS, ViewCase, told_or_refused
from viewpool import BY_WORD, LINKED, PAIR, SHAPE, SOURCES, TREE, VIEWS, chains, changed, pair, picked, right, row

from putback.carry import carried_back, carried_on, rows_back, rows_on, steps_back
from putback.choices import Case, Choose
from putback.errors import CantPut, NoPaper
from putback.fields import At, Nest, Rename, Take, Unnest, Within
from putback.joins import Join
from putback.kinds import record_of
from putback.papers import between, done
from putback.tables import Beside, Each, Group, Keep, Order
from putback.trees import Boughs, Top, Unroll
from putback.views import Chain, View

FEW = ("less", ("n",), 5)
NOWHERE = ("set", ("nowhere", "at", "all"), 1)


class CarryCase(ViewCase):
    def carries(self, ask, view, kind, source, paper, told):
        """What is told, and that all that was handed in is as it was."""
        held = copy.deepcopy((source, paper))
        self.assertEqual(ask(view, kind, source, paper), told)
        self.assertEqual((source, paper), held)

    def on(self, view, kind, source, paper, told):
        self.carries(carried_on, view, kind, source, paper, told)
        self.carries(carried_on, Chain([view]), kind, source, paper, told)

    def back(self, view, kind, source, paper, told):
        self.carries(carried_back, view, kind, source, paper, told)
        self.carries(carried_back, Chain([view]), kind, source, paper, told)

    def no_paper(self, ask, view, kind, source, paper, at):
        held = copy.deepcopy((source, paper))
        with self.assertRaises(NoPaper) as caught:
            ask(view, kind, source, paper)
        self.assertEqual(caught.exception.at, at)
        self.assertIs(caught.exception.at.__class__, int)
        self.assertEqual((source, paper), held)

    def cant_put(self, ask, view, kind, source, paper, way):
        held = copy.deepcopy((source, paper))
        with self.assertRaises(CantPut) as caught:
            ask(view, kind, source, paper)
        self.assertEqual(caught.exception.way, way)
        self.assertEqual((source, paper), held)


class EachClassTest(CarryCase):
    """One paper on and one back through a view of each class."""

    def test_plain(self):
        paper = [("set", (), 7)]
        self.on(View(), N, 5, paper, paper)
        self.back(View(), N, 5, paper, paper)
        self.on(View(), N, 7, paper, [])

    def test_take(self):
        source = {"id": 1, "name": "a"}
        self.on(Take(["id"]), ROW, source, [("set", ("name",), "b"), ("set", ("id",), 2)], [("set", ("id",), 2)])
        self.on(Take(["id"]), ROW, source, [("set", ("name",), "b")], [])
        self.back(Take(["id"]), ROW, source, [("set", ("id",), 2)], [("set", ("id",), 2)])

    def test_rename(self):
        source = {"id": 1, "name": "a"}
        self.on(Rename("name", "called"), ROW, source, [("set", ("id",), 2), ("set", ("name",), "b")],
                [("set", ("called",), "b"), ("set", ("id",), 2)])
        self.back(Rename("name", "called"), ROW, source, [("set", ("called",), "b")], [("set", ("name",), "b")])

    def test_nest_and_unnest(self):
        source = {"id": 1, "name": "a"}
        view = Nest(["name"], "in")
        self.on(view, ROW, source, [("set", ("name",), "b")], [("set", ("in", "name"), "b")])
        self.back(view, ROW, source, [("set", ("in", "name"), "b"), ("set", ("id",), 2)], [("set", ("id",), 2), ("set", ("name",), "b")])
        kind = view.behind(ROW)
        self.on(Unnest("in"), kind, view.see(ROW, source), [("set", ("in", "name"), "b")], [("set", ("name",), "b")])
        self.back(Unnest("in"), kind, view.see(ROW, source), [("set", ("name",), "b")], [("set", ("in", "name"), "b")])

    def test_within_and_at(self):
        kind = record_of([("f", ROW), ("g", N)])
        source = {"f": {"id": 1, "name": "a"}, "g": 3}
        self.on(Within("f", At("id")), kind, source, [("set", ("f", "id"), 2), ("set", ("g",), 4)], [("set", ("f",), 2), ("set", ("g",), 4)])
        self.back(Within("f", At("id")), kind, source, [("set", ("f",), 2)], [("set", ("f", "id"), 2)])
        self.on(At("f"), kind, source, [("set", ("f", "id"), 2), ("set", ("g",), 4)], [("set", ("id",), 2)])
        self.back(At("f"), kind, source, [("set", ("id",), 2)], [("set", ("f", "id"), 2)])

    def test_keep(self):
        source = [row(1, 1), row(2, 8)]
        kind = SOURCES[1][0]
        self.on(Keep(FEW), kind, source, [("set", (2, "n"), 3), ("set", (1, "n"), 9), ("add", (), row(7, 7))],
                [("cut", (), 1), ("add", (), row(2, 3))])
        self.back(Keep(FEW), kind, source, [("cut", (), 1), ("add", (), row(4, 4))], [("cut", (), 1), ("add", (), row(4, 4))])
        self.cant_put(carried_back, Keep(FEW), kind, source, [("add", (), row(2, 2))], [1])
        self.cant_put(carried_back, Keep(FEW), kind, source, [("set", (1, "n"), 5)], [0])

    def test_order(self):
        source = [row(1, 1, "z"), row(2, 2, "a")]
        self.on(Order("w"), SOURCES[1][0], source, [("set", (1, "w"), "b")], [("set", (1, "w"), "b")])
        self.back(Order("w"), SOURCES[1][0], source, [("set", (1, "w"), "0"), ("cut", (), 2)], [("set", (1, "w"), "0"), ("cut", (), 2)])
        self.back(Order(), BY_WORD, source[::-1], [("add", (), row(0, 0, "q"))], [("add", (), row(0, 0, "q"))])

    def test_each(self):
        view = Each(Take(["id", "w"]))
        source = [row(1, 1, "z"), row(2, 2, "a")]
        self.on(view, SOURCES[1][0], source, [("set", (1, "n"), 4), ("cut", (), 2), ("add", (), row(3, 3, "c"))],
                [("cut", (), 2), ("add", (), {"id": 3, "w": "c"})])
        self.back(view, SOURCES[1][0], source, [("add", (), {"id": 3, "w": "c"}), ("set", (2, "w"), "b")],
                  [("set", (2, "w"), "b"), ("add", (), row(3, 0, "c"))])

    def test_beside(self):
        view = Beside("n", "all", "sum")
        source = [row(1, 1), row(2, 2)]
        kind = SOURCES[1][0]
        self.on(view, kind, source, [("set", (2, "n"), 7)], [("set", ("all", 2, "n"), 7), ("set", ("sum",), 8)])
        self.back(view, kind, source, [("set", ("sum",), 2), ("cut", ("all",), 1)], [("cut", (), 1)])
        self.cant_put(carried_back, view, kind, source, [("cut", ("all",), 1)], ["sum"])
        self.cant_put(carried_back, Chain([View(), view]), kind, source, [("cut", ("all",), 1)], [1, "sum"])

    def test_group(self):
        source = [row(1, 1, "p"), row(2, 2, "q")]
        kind = SOURCES[1][0]
        view = Group("w", "in")
        self.on(view, kind, source, [("set", (2, "w"), "p")], [("add", ("p", "in"), {"id": 2, "n": 2}), ("cut", (), "q")])
        self.back(view, kind, source, [("add", ("q", "in"), {"id": 0, "n": 0})], [("add", (), row(0, 0, "q"))])
        self.cant_put(carried_back, view, kind, source, [("cut", ("q", "in"), 2)], [1, "in"])
        self.cant_put(carried_back, view, kind, source, [("add", ("q", "in"), {"id": 1, "n": 0})], [1, "in", 0])

    def test_join(self):
        source = {"left": [row(1, 1, "p"), row(2, 2, "z")], "n": 3, "right": [right("p", 5)]}
        view = Join("left", "right", "w")
        joined = {"id": 1, "n": 1, "w": "p", "x": 5}
        self.on(view, LINKED, source, [("add", ("right",), right("z", 9))], [("add", ("left",), {"id": 2, "n": 2, "w": "z", "x": 9})])
        self.on(view, LINKED, source, [("set", ("right", "p", "x"), 6), ("set", ("n",), 4)],
                [("set", ("left", 1, "x"), 6), ("set", ("n",), 4)])
        self.back(view, LINKED, source, [("set", ("left", 1, "x"), 6)], [("set", ("right", "p", "x"), 6)])
        self.back(view, LINKED, source, [("add", ("left",), {**joined, "id": 7, "w": "q"})],
                  [("add", ("left",), row(7, 1, "q")), ("add", ("right",), right("q", 5))])
        self.cant_put(carried_back, view, LINKED, source, [("add", ("left",), {**joined, "id": 2})], ["left", 1])

    def test_top_boughs_and_unroll(self):
        source = (pair(1), [(pair(2, "q"), [])])
        self.on(Top(), TREE, source, [("trim", ()), ("set", ("knot", "n"), 4)], [("set", ("n",), 4)])
        self.back(Top(), TREE, source, [("set", ("n",), 4)], [("set", ("knot", "n"), 4)])
        self.on(Boughs(At("n")), TREE, source, [("set", (0, "knot", "w"), "z"), ("grow", (), (pair(5), []))], [("grow", (), (5, []))])
        self.back(Boughs(At("n")), TREE, source, [("set", (0, "knot"), 9), ("grow", (0,), (6, []))],
                  [("set", (0, "knot", "n"), 9), ("grow", (0,), (pair(6, ""), []))])
        view = Unroll("at", "deep", "in")
        self.on(view, TREE, source, [("grow", (0,), (pair(3), []))], [("add", (), {"at": 2, "deep": 2, "in": pair(3)})])
        self.back(view, TREE, source, [("add", (), {"at": 2, "deep": 1, "in": pair(3)})], [("grow", (), (pair(3), []))])
        self.cant_put(carried_back, view, TREE, source, [("add", (), {"at": 3, "deep": 1, "in": pair(3)})], [2, "at"])
        self.cant_put(carried_back, view, TREE, source, [("cut", (), 1), ("cut", (), 0)], [])

    def test_case_and_choose(self):
        view = Case("a", At("n"))
        self.on(view, SHAPE, ("a", pair(1)), [("set", ("a", "n"), 2)], [("set", ("a",), 2)])
        self.on(view, SHAPE, ("a", pair(1)), [("set", ("a", "w"), "z")], [])
        self.on(view, SHAPE, ("a", pair(1)), [("set", (), ("b", 2))], [("set", (), ("b", 2))])
        self.back(view, SHAPE, ("a", pair(1)), [("set", ("a",), 2)], [("set", ("a", "n"), 2)])
        self.back(view, SHAPE, ("b", 1), [("set", (), ("a", 2))], [("set", (), ("a", pair(2, "")))])
        view = Choose(("less", ("n",), 5), At("n"), Chain([Take(["n"]), At("n")]))
        self.on(view, PAIR, pair(1), [("set", ("n",), 8)], [("set", (), 8)])
        self.back(view, PAIR, pair(1), [("set", (), 4)], [("set", ("n",), 4)])
        self.cant_put(carried_back, view, PAIR, pair(1), [("set", (), 5)], [])


class RefusalsTest(CarryCase):
    SOURCE = {"left": [row(1, 1, "p"), row(2, 2, "z")], "n": 3, "right": [right("p", 5)]}
    CHAIN = Chain([At("left"), Keep(FEW)])

    def test_each_place(self):
        good = [("set", ("n",), 4), ("cut", ("left",), 1), ("add", ("right",), right("a")), ("set", ("left", 2, "n"), 9)]
        shown = [("cut", (), 1), ("add", (), row(5)), ("set", (5, "n"), 2), ("set", (2, "w"), "v")]
        for at in range(5):
            for bad in (NOWHERE, ("set", ("n",), "x"), ("cut", ("left",), 77), ("trim", ())):
                self.no_paper(carried_on, self.CHAIN, LINKED, self.SOURCE, good[:at] + [bad] + good[at:], at)
                self.no_paper(rows_on, self.CHAIN, LINKED, self.SOURCE, good[:at] + [bad] + good[at:], at)
            for bad in (NOWHERE, ("set", (2, "id"), 3), ("cut", (), 77), ("cut", (), True), ("add", (), row(2)), ("add", (), None)):
                paper = shown[:at] + [bad] + shown[at:]
                for ask in (carried_back, rows_back, steps_back):
                    self.no_paper(ask, self.CHAIN, LINKED, self.SOURCE, paper, at)

    def test_a_step_that_the_ones_ahead_make_undoable(self):
        self.no_paper(carried_on, View(), N, 1, [("set", (), 2), ("set", (), 3), ("set", (), "x")], 2)
        for ask in (carried_back, rows_back, steps_back):
            self.no_paper(ask, self.CHAIN, LINKED, self.SOURCE, [("cut", (), 1), ("set", (1, "n"), 2), ("cut", (), 2)], 1)

    def test_no_paper_goes_ahead_of_cant_put(self):
        paper = [("set", (1, "n"), 9), NOWHERE]
        self.no_paper(carried_back, self.CHAIN, LINKED, self.SOURCE, paper, 1)
        self.no_paper(rows_back, self.CHAIN, LINKED, self.SOURCE, paper, 1)
        self.cant_put(steps_back, self.CHAIN, LINKED, self.SOURCE, paper, [1, 0])

    def test_the_way_of_the_put(self):
        paper = [("set", (2, "n"), 9)]
        for ask in (carried_back, rows_back, steps_back):
            self.cant_put(ask, self.CHAIN, LINKED, self.SOURCE, paper, [1, 1])
            self.cant_put(ask, Chain([View(), self.CHAIN, View()]), LINKED, self.SOURCE, paper, [1, 1, 1])
        self.cant_put(carried_back, Within("left", Keep(FEW)), LINKED, self.SOURCE, [("set", ("left", 2, "n"), 9)], ["left", 1])
        self.cant_put(steps_back, Within("left", Keep(FEW)), LINKED, self.SOURCE, [("set", ("left", 2, "n"), 9)], ["left", 1])

    def test_refusals_in_the_middle_of_steps(self):
        view = Keep(FEW)
        kind = SOURCES[1][0]
        source = [row(1, 1), row(2, 8)]
        self.cant_put(steps_back, view, kind, source, [("add", (), row(3)), ("add", (), row(2)), NOWHERE], [1])
        self.no_paper(steps_back, view, kind, source, [("add", (), row(3)), NOWHERE, ("add", (), row(2))], 1)
        self.no_paper(steps_back, view, kind, source, [("add", (), row(3)), ("cut", (), 1), ("set", (3, "n"), 4), ("cut", (), 1)], 3)


class RowsTest(CarryCase):
    def test_on(self):
        chain = Chain([At("left"), Keep(FEW), Each(Take(["id", "w"]))])
        source = {"left": [row(1, 1, "p"), row(2, 8, "z")], "n": 3, "right": []}
        self.carries(rows_on, chain, LINKED, source, [("set", ("n",), 9), ("set", ("n",), 4), ("set", ("left", 2, "n"), 2)], [
            [("set", ("left", 2, "n"), 2), ("set", ("n",), 4)],
            [("set", (2, "n"), 2)],
            [("add", (), row(2, 2, "z"))],
            [("add", (), {"id": 2, "w": "z"})],
        ])

    def test_back(self):
        chain = Chain([At("left"), Keep(FEW), Each(Take(["id", "w"]))])
        source = {"left": [row(1, 1, "p"), row(2, 8, "z")], "n": 3, "right": []}
        paper = [("add", (), {"id": 3, "w": "c"}), ("set", (3, "w"), "d"), ("set", (1, "w"), "q")]
        self.carries(rows_back, chain, LINKED, source, paper, [
            [("set", ("left", 1, "w"), "q"), ("add", ("left",), row(3, 0, "d"))],
            [("set", (1, "w"), "q"), ("add", (), row(3, 0, "d"))],
            [("set", (1, "w"), "q"), ("add", (), row(3, 0, "d"))],
            [("set", (1, "w"), "q"), ("add", (), {"id": 3, "w": "d"})],
        ])

    def test_no_steps_at_all(self):
        paper = [("set", (), 1), ("set", (), 2)]
        for ask in (rows_on, rows_back):
            self.carries(ask, Chain([]), N, 5, paper, [[("set", (), 2)]])
            self.carries(ask, Chain([]), N, 5, [], [[]])
            self.carries(ask, Chain([View(), View()]), N, 5, paper, [[("set", (), 2)]] * 3)
            self.carries(ask, Chain([View(), View()]), N, 2, paper, [[], [], []])
            self.no_paper(ask, Chain([]), N, 5, paper + [("trim", ())], 2)

    def test_nothing_in_the_paper(self):
        for kind, sources in SOURCES:
            for steps, way in chains(kind, VIEWS, 2):
                if way is None:
                    for ask in (rows_on, rows_back):
                        self.carries(ask, Chain(steps), kind, sources[-1], [], [[]] * (len(steps) + 1))
                    self.carries(carried_on, Chain(steps), kind, sources[-1], [], [])
                    self.carries(carried_back, Chain(steps), kind, sources[-1], [], [])
                    self.carries(steps_back, Chain(steps), kind, sources[-1], [], [])


class StepsTest(CarryCase):
    def test_one_for_each_step(self):
        source = [row(1, 1), row(2, 8)]
        paper = [("set", (1, "n"), 2), ("set", (1, "n"), 2), ("add", (), row(4)), ("set", (4, "n"), 3), ("cut", (), 1)]
        self.carries(steps_back, Keep(FEW), SOURCES[1][0], source, paper, [
            [("set", (1, "n"), 2)], [], [("add", (), row(4))], [("set", (4, "n"), 3)], [("cut", (), 1)],
        ])

    def test_a_put_that_is_refused_though_the_whole_is_not(self):
        view = Beside("n", "all", "sum")
        source = [row(1, 1), row(2, 2)]
        paper = [("cut", ("all",), 1), ("set", ("sum",), 2)]
        self.back(view, SOURCES[1][0], source, paper, [("cut", (), 1)])
        self.cant_put(steps_back, view, SOURCES[1][0], source, paper, ["sum"])

    def test_a_loose_view_may_tell_otherwise_by_steps(self):
        view = Each(Take(["id", "w"]))
        source = [row(1, 7, "p")]
        paper = [("cut", (), 1), ("add", (), {"id": 1, "w": "p"})]
        self.back(view, SOURCES[1][0], source, paper, [])
        self.carries(steps_back, view, SOURCES[1][0], source, paper, [[("cut", (), 1)], [("add", (), row(1, 0, "p"))]])

    def test_through_what_is_shown_then(self):
        """The second step is asked of the source that the first one left."""
        view = Choose(("less", ("n",), 5), At("n"), At("n"))
        self.cant_put(steps_back, view, PAIR, pair(1), [("set", (), 4), ("set", (), 6)], [])
        self.carries(steps_back, view, PAIR, pair(1), [("set", (), 4), ("set", (), 3)], [[("set", ("n",), 4)], [("set", ("n",), 3)]])
        join = Join("left", "right", "w")
        source = {"left": [row(1, 1, "p"), row(2, 2, "z")], "n": 3, "right": [right("p", 5)]}
        paper = [("cut", ("left",), 1), ("set", ("n",), 4)]
        self.carries(steps_back, join, LINKED, source, paper, [[("cut", ("left",), 1)], [("set", ("n",), 4)]])

    def test_sixty_steps(self):
        source = [{"id": number, "name": "a"} for number in range(60)]
        paper = [("set", (number, "name"), "b" * number) for number in range(60)]
        view = Chain([View(), Order("name"), Keep(("not", ("same", ("name",), "zz")))])
        told = steps_back(view, ROWS, source, paper)
        self.assertEqual(told, [[step] for step in paper])
        self.assertEqual(carried_back(view, ROWS, source, paper), paper)
        self.assertEqual(carried_on(view, ROWS, source, paper), paper)
        self.no_paper(steps_back, view, ROWS, source, paper[:59] + [NOWHERE], 59)


def papers_for(kind, value, count):
    """Some papers that can be done on the value: the shortest to others near it, and roundabout ones over a third."""
    near = picked(changed(kind, value), count)
    told = [between(kind, value, other) for other in near]
    for number, other in enumerate(near):
        told.append(between(kind, value, other) + between(kind, other, near[number // 2]))
        told.append(between(kind, value, other) + between(kind, other, value) + between(kind, value, near[-1 - number]))
    return told


class EveryViewTest(CarryCase):
    """Chains of none to three views of every class, over several kinds: what holds between the papers."""

    def all_chains(self):
        for kind, sources in SOURCES:
            good = [steps for steps, way in chains(kind, VIEWS, 3) if way is None]
            for count, most in ((1, 40), (2, 25), (3, 25)):
                for steps in picked([steps for steps in good if len(steps) == count], most):
                    yield steps, kind, sources[-2:]
            yield [], kind, sources

    def test_on(self):
        for steps, kind, sources in self.all_chains():
            chain = Chain(steps)
            for source in sources:
                for paper in picked(papers_for(kind, source, 3), 4):
                    self.carried_on_by_rows(chain, kind, source, paper)
                    for at in range(len(paper) + 1):
                        bad = paper[:at] + [NOWHERE] + paper[at:]
                        self.no_paper(carried_on, chain, kind, source, bad, at)
                        self.no_paper(rows_on, chain, kind, source, bad, at)

    def carried_on_by_rows(self, chain, kind, source, paper):
        held = copy.deepcopy((source, paper))
        new = done(kind, paper, source)
        behind = chain.behind(kind)
        told = carried_on(chain, kind, source, paper)
        self.assertEqual(told, between(behind, chain.see(kind, source), chain.see(kind, new)))
        self.assertEqual(done(behind, told, chain.see(kind, source)), chain.see(kind, new))
        rows = rows_on(chain, kind, source, paper)
        self.assertEqual(len(rows), len(chain.steps) + 1)
        self.assertEqual(rows[0], between(kind, source, new))
        self.assertEqual(rows[-1], told)
        self.each_is_carried_on(chain, kind, source, rows)
        self.assertEqual((source, paper), held)

    def each_is_carried_on(self, chain, kind, source, rows):
        kinds, shown = chain.kinds_row(kind), chain.seen_row(kind, source)
        for number, step in enumerate(chain.steps):
            self.assertEqual(carried_on(step, kinds[number], shown[number], rows[number]), rows[number + 1])

    def test_back(self):
        refused = set()
        for steps, kind, sources in self.all_chains():
            chain = Chain(steps)
            behind = chain.behind(kind)
            for source in sources:
                for paper in picked(papers_for(behind, chain.see(kind, source), 3), 4):
                    told = self.carried_back_by_rows(chain, kind, source, paper)
                    if told[0] == "CantPut":
                        refused.add(steps[told[1][0][0]].__class__.__name__)
                    if len(steps) == 1:
                        self.as_its_one_step(steps[0], kind, source, paper, told)
                    for at in range(len(paper) + 1):
                        bad = paper[:at] + [NOWHERE] + paper[at:]
                        self.no_paper(carried_back, chain, kind, source, bad, at)
                        self.no_paper(rows_back, chain, kind, source, bad, at)
        self.assertLessEqual({"Keep", "Beside", "Group", "Join", "Unroll", "Choose", "Boughs"}, refused)

    def carried_back_by_rows(self, chain, kind, source, paper):
        held = copy.deepcopy((source, paper))
        behind, shown = chain.behind(kind), chain.see(kind, source)
        seen = done(behind, paper, shown)
        told = told_or_refused(carried_back, chain, kind, source, paper)
        rows = told_or_refused(rows_back, chain, kind, source, paper)
        put = told_or_refused(chain.put, kind, source, seen)
        if put[0] != "told":
            self.assertEqual(told, put)
            self.assertEqual(rows, put)
        else:
            self.assertEqual(told, ("told", between(kind, source, put[1])))
            self.assertEqual(chain.see(kind, done(kind, told[1], source)), seen)
            self.assertEqual(len(rows[1]), len(chain.steps) + 1)
            self.assertEqual(rows[1][-1], between(behind, shown, seen))
            self.assertEqual(rows[1][0], told[1])
            self.each_is_carried_back(chain, kind, source, rows[1])
            self.each_is_carried_on(chain, kind, source, rows[1])
        self.assertEqual((source, paper), held)
        return told

    def each_is_carried_back(self, chain, kind, source, rows):
        kinds, shown = chain.kinds_row(kind), chain.seen_row(kind, source)
        for number, step in enumerate(chain.steps):
            self.assertEqual(carried_back(step, kinds[number], shown[number], rows[number + 1]), rows[number])

    def as_its_one_step(self, step, kind, source, paper, told):
        """A chain of one tells what its step tells, with the step's number ahead of a way."""
        alone = told_or_refused(carried_back, step, kind, source, paper)
        self.assertEqual(told, ("CantPut", [[0] + alone[1][0]]) if alone[0] == "CantPut" else alone)

    def test_steps_back(self):
        counts = {"told": 0, "CantPut": 0}
        for steps, kind, sources in self.all_chains():
            chain = Chain(steps)
            behind = chain.behind(kind)
            for source in sources:
                for paper in picked(papers_for(behind, chain.see(kind, source), 4), 5):
                    counts[self.carried_back_by_steps(chain, kind, source, paper)[0]] += 1
                    if len(steps) == 1 and steps[0].__class__ != Chain:
                        self.carried_back_by_steps(steps[0], kind, source, paper)
                    for at in range(len(paper)):
                        self.carried_back_by_steps(chain, kind, source, paper[:at] + [NOWHERE] + paper[at:])
        self.assertGreater(counts["told"], 1000)
        self.assertGreater(counts["CantPut"], 500)

    def carried_back_by_steps(self, view, kind, source, paper):
        held = copy.deepcopy((source, paper))
        told = told_or_refused(steps_back, view, kind, source, paper)
        self.assertEqual(told, self.by_steps(view, kind, source, paper))
        if told[0] == "told":
            self.assertEqual(len(told[1]), len(paper))
            now = source
            for one in told[1]:
                now = done(kind, one, now)
            self.assertEqual(view.see(kind, now), done(view.behind(kind), paper, view.see(kind, source)))
            if view.grade() != "loose":
                self.assertEqual(now, done(kind, carried_back(view, kind, source, paper), source))
        self.assertEqual((source, paper), held)
        return told

    def by_steps(self, view, kind, source, paper):
        """The same, asked of done, put and between alone."""
        now, papers = source, []
        for number, step in enumerate(paper):
            told = told_or_refused(done, view.behind(kind), [step], view.see(kind, now))
            if told[0] != "told":
                return ("NoPaper", [number])
            told = told_or_refused(view.put, kind, now, told[1])
            if told[0] != "told":
                return told
            papers.append(between(kind, now, told[1]))
            now = told[1]
        return ("told", papers)


class HandedInAgainTest(CarryCase):
    """What is told may be handed in again."""

    def test_on_and_back(self):
        for kind, sources in SOURCES:
            for steps, way in chains(kind, VIEWS, 1):
                if way is None:
                    view = steps[0]
                    for paper in papers_for(kind, sources[-1], 3):
                        told = carried_on(view, kind, sources[-1], paper)
                        back = told_or_refused(carried_back, view, kind, sources[-1], told)
                        if back[0] == "told":
                            self.assertEqual(carried_on(view, kind, sources[-1], back[1]), told)
                        else:
                            self.assertEqual(back[0], "CantPut")

    def test_what_is_told_changed_later(self):
        source = [{"id": 1, "name": "a"}]
        first = carried_on(View(), ROWS, source, [("add", (), {"id": 2, "name": "b"})])
        again = copy.deepcopy(first)
        self.assertEqual(carried_on(View(), ROWS, [{"id": 1, "name": "a"}], [("add", (), {"id": 2, "name": "b"})]), again)
        self.assertEqual(carried_back(View(), ROWS, [{"id": 1, "name": "a"}], first), again)


if __name__ == "__main__":
    unittest.main()

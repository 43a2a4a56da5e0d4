import copy
import itertools
import unittest

from viewcase import N, ROWS, W, Shift, ViewCase

from putback.choices import Case, Choose
from putback.errors import CantPut
from putback.fields import At, Nest, Rename, Take, Unnest, Within
from putback.joins import Join
from putback.kinds import either_of, record_of, rows_of
from putback.tables import Each, Group, Keep, Order
from putback.trees import Boughs, Top, Unroll
from putback.views import Chain, View

BOX = record_of([("high", N), ("wide", N)])
SHAPE = either_of([("box", BOX), ("dot", N), ("heap", ROWS), ("nil", record_of([]))])
SMALL = ("less", ("id",), 5)


def box(high, wide):
    return ("box", {"high": high, "wide": wide})


def heap(*keys):
    return ("heap", [{"id": key, "name": "n"} for key in keys])


SHAPES = [
    box(0, 0), box(1, 2), box(3, 4), ("dot", 0), ("dot", 7), heap(), heap(1), heap(9), heap(1, 9), ("nil", {}),
]


class Remembering(View):
    """Keeps by itself what values it was put on."""

    def __init__(self):
        self.sources = []

    def put(self, kind, source, seen):
        self.sources.append((kind, copy.deepcopy(source), seen))
        return seen


class CaseTest(ViewCase):
    def test_made(self):
        inner = Take(["high"])
        view = Case("box", inner)
        self.assertIsInstance(view, View)
        self.assertEqual(view.name, "box")
        self.assertIs(view.inner, inner)

    def test_behind(self):
        self.stands(Case("dot", View()), SHAPE, SHAPE)
        self.stands(Case("box", At("wide")), SHAPE,
                    ("either", (("box", N), ("dot", N), ("heap", ROWS), ("nil", record_of([])))))
        self.stands(Case("box", Take(["wide"])), SHAPE,
                    ("either", (("box", record_of([("wide", N)])), ("dot", N), ("heap", ROWS), ("nil", record_of([])))))
        self.stands(Case("heap", Order("name")), SHAPE, either_of(
            [("box", BOX), ("dot", N), ("heap", rows_of("id", "name", [("id", N), ("name", W)])), ("nil", record_of([]))]))
        self.stands(Case("a", Top()), either_of([("a", ("tree", W))]), either_of([("a", W)]))
        self.stands(Case("a", Case("b", At("x"))), either_of([("a", either_of([("b", record_of([("x", W)]))]))]),
                    either_of([("a", either_of([("b", W)]))]))
        self.stands(Case("a", Chain([Rename("x", "y"), At("y")])), either_of([("a", record_of([("x", W)])), ("b", N)]),
                    either_of([("a", W), ("b", N)]))

    def test_where_it_does_not_stand(self):
        self.no_view_but(Case("id", View()), ["either"], [])
        self.no_view(Case("box", View()), BOX, [])
        self.no_view(Case("high", View()), SHAPE, [])
        self.no_view(Case("none", View()), SHAPE, [])
        self.no_view(Case("box", At("deep")), SHAPE, ["box"])
        self.no_view(Case("dot", At("high")), SHAPE, ["dot"])
        self.no_view(Case("box", Shift(1)), SHAPE, ["box", "shift"])
        self.no_view(Case("box", Chain([View(), Within("high", Top())])), SHAPE, ["box", 1, "high"])
        self.no_view(Case("heap", Keep(("not", ("same", ("name",), 1)))), SHAPE, ["heap", "look", 1])
        self.no_view(Case("heap", Each(Take(["name", "name"]))), SHAPE, ["heap", "row"])
        self.no_view(Case("heap", Each(Take(["name"]))), SHAPE, ["heap"])
        self.no_view(Case("a", Case("b", Case("c", View()))), either_of([("a", either_of([("b", SHAPE)]))]), ["a", "b"])

    def test_a_shape_that_is_not_there_goes_ahead(self):
        self.no_view(Case("none", Shift(1)), SHAPE, [])
        self.no_view(Case("box", Shift(1)), BOX, [])

    def test_see(self):
        self.shows(Case("dot", Shift(10)), SHAPE, ("dot", 5), ("dot", 15))
        self.shows(Case("dot", Shift(10)), SHAPE, box(1, 2), box(1, 2))
        self.shows(Case("dot", Shift(10)), SHAPE, ("nil", {}), ("nil", {}))
        self.shows(Case("box", At("wide")), SHAPE, box(1, 2), ("box", 2))
        self.shows(Case("box", At("wide")), SHAPE, ("dot", 2), ("dot", 2))
        self.shows(Case("heap", Keep(SMALL)), SHAPE, heap(1, 9), heap(1))
        self.shows(Case("box", Take([])), SHAPE, box(1, 2), ("box", {}))

    def test_put_where_the_source_has_this_shape(self):
        self.puts(Case("box", At("wide")), SHAPE, box(1, 2), ("box", 5), box(1, 5))
        self.puts(Case("dot", Shift(10)), SHAPE, ("dot", 3), ("dot", 15), ("dot", 5))
        self.puts(Case("heap", Keep(SMALL)), SHAPE, heap(1, 9), heap(2, 3), heap(2, 3, 9))

    def test_put_where_the_source_has_another_shape(self):
        for source in (("dot", 3), heap(1, 9), ("nil", {})):
            self.puts(Case("box", At("wide")), SHAPE, source, ("box", 5), box(0, 5))
        self.puts(Case("heap", Keep(SMALL)), SHAPE, box(1, 2), heap(2, 3), heap(2, 3))
        self.puts(Case("dot", Shift(10)), SHAPE, box(1, 2), ("dot", 15), ("dot", 5))
        inner = Remembering()
        Case("box", inner).put(SHAPE, ("dot", 1), box(1, 2))
        Case("box", inner).put(SHAPE, box(3, 4), box(1, 2))
        self.assertEqual(inner.sources, [
            (BOX, {"high": 0, "wide": 0}, {"high": 1, "wide": 2}), (BOX, {"high": 3, "wide": 4}, {"high": 1, "wide": 2}),
        ])

    def test_put_of_another_shape(self):
        inner = Remembering()
        for source in SHAPES:
            for seen in (("dot", 5), heap(1, 9), ("nil", {})):
                self.puts(Case("box", At("wide")), SHAPE, source, seen, seen)
                Case("box", inner).put(SHAPE, source, seen)
        self.assertEqual(inner.sources, [])

    def test_a_shape_of_its_own_kind_is_not_taken_for_another(self):
        kind = either_of([("a", N), ("b", N)])
        self.shows(Case("a", Shift(1)), kind, ("b", 5), ("b", 5))
        self.puts(Case("a", Shift(1)), kind, ("b", 5), ("a", 5), ("a", 4))
        self.puts(Case("a", Shift(1)), kind, ("a", 5), ("b", 5), ("b", 5))
        boxes = either_of([("a", BOX), ("b", BOX)])
        self.puts(Case("a", At("wide")), boxes, ("b", {"high": 7, "wide": 8}), ("a", 9), ("a", {"high": 0, "wide": 9}))

    def test_new_values_share_nothing(self):
        kind = either_of([("a", record_of([("n", N), ("rows", ROWS)])), ("b", N)])
        view = Case("a", At("n"))
        new = view.put(kind, ("b", 1), ("a", 1))
        new[1]["rows"].append({"id": 1, "name": "x"})
        self.assertEqual(view.put(kind, ("b", 1), ("a", 1)), ("a", {"n": 1, "rows": []}))

    def test_refusals(self):
        limited = Case("dot", Shift(0, 10))
        for source in SHAPES:
            if source[0] != "dot":
                self.refuses(limited, SHAPE, source, ("dot", 11), ["dot", "limit"])
        self.refuses(limited, SHAPE, ("dot", 3), ("dot", 11), ["dot", "limit"])
        self.refuses(Case("box", Within("high", Shift(0, 10))), SHAPE, box(1, 2), box(11, 2), ["box", "high", "limit"])
        self.refuses(Case("heap", Keep(SMALL)), SHAPE, heap(1), heap(1, 5), ["heap", 1])
        self.refuses(Case("heap", Chain([View(), Keep(SMALL)])), SHAPE, ("dot", 1), heap(1, 2, 5), ["heap", 1, 2])
        twice = either_of([("a", either_of([("b", N), ("c", N)])), ("b", N)])
        self.refuses(Case("a", Case("b", Shift(0, 10))), twice, ("b", 20), ("a", ("b", 11)), ["a", "b", "limit"])
        self.puts(Case("a", Case("b", Shift(0, 10))), twice, ("a", ("c", 20)), ("a", ("c", 11)), ("a", ("c", 11)))

    def test_what_does_not_fit_goes_ahead(self):
        limited = Case("box", Within("high", Shift(0, 10)))
        self.refuses(limited, SHAPE, box(1, 2), box(11, "a"), ["box", "wide"])
        self.refuses(limited, SHAPE, box(1, 2), ("none", 11), [])
        self.refuses(limited, SHAPE, box(1, 2), list(box(11, 2)), [])
        self.refuses(limited, SHAPE, box(1, 2), box(11, 2) + (1,), [])
        self.refuses(limited, SHAPE, ("dot", 1), ("dot", True), ["dot"])
        self.refuses(Case("box", At("wide")), SHAPE, box(1, 2), box(1, 2), ["box"])
        self.refuses(Case("box", Chain([At("wide")])), SHAPE, box(1, 2), box(1, 2), ["box"])
        for source in (box(1, 2), ("dot", 1), heap(1, 9), ("nil", {})):
            self.refuses_what_does_not_fit(Case("box", Take(["wide"])), SHAPE, source)
            self.refuses_what_does_not_fit(Case("heap", Chain([Keep(SMALL), Order("name")])), SHAPE, source)

    def test_grade_and_keeps(self):
        for grade, told in (("full", "full"), ("firm", "loose"), ("loose", "loose")):
            self.assertEqual(Case("a", Shift(1, worth=grade)).grade(), told)
            self.assertEqual(Case("a", Chain([View(), Within("b", Shift(1, worth=grade))])).grade(), told)
        self.assertEqual(Case("a", View()).grade(), "full")
        self.assertEqual(Case("a", Case("b", View())).grade(), "full")
        self.assertEqual(Case("a", Take(["b"])).grade(), "loose")
        self.keeps_just(Case("box", View()), [], ["box", "dot", "high"])

    def test_laws(self):
        odd = [None, ("dot", 11), ("dot", "a"), ("box", 3), ("heap", {}), box(1, ""), heap(9, 10)]
        for name, inner in (
            ("dot", View()), ("dot", Shift(-4, 9)), ("box", Nest(["high"], "in")), ("box", Rename("high", "deep")),
            ("box", At("high")), ("box", Take(["wide"])), ("heap", Keep(SMALL)), ("heap", Group("name", "in")),
            ("heap", Each(Take(["id"]))), ("nil", View()), ("heap", Chain([])),
        ):
            self.lawful(Case(name, inner), SHAPE, SHAPES, odd + [("box", {"wide": 9}), ("heap", []), ("box", 1)])

    def test_put_twice_with_a_firm_inner_view(self):
        for name, inner in (
            ("heap", Keep(SMALL)), ("box", Take(["wide"])), ("box", At("high")), ("dot", Shift(1, 9, "firm")),
            ("box", Chain([Rename("high", "deep"), Take(["deep"])])),
        ):
            view = Case(name, inner)

            def promised(source, first, second):
                return not (source[0] == name and second[0] == name and first[0] != name)

            seens = [view.see(SHAPE, source) for source in SHAPES] + [("heap", [{"id": 3, "name": "m"}])]
            counts = self.asked_twice(view, SHAPE, SHAPES, seens, promised)
            if name != "dot":
                self.assertGreater(counts[False], 0)

    def test_another_shape_between_forgets(self):
        view = Case("heap", Keep(SMALL))
        self.assertEqual(view.put(SHAPE, heap(1, 9), heap(2)), heap(2, 9))
        self.assertEqual(view.put(SHAPE, view.put(SHAPE, heap(1, 9), ("nil", {})), heap(2)), heap(2))


NOTE = record_of([("count", N), ("has", ROWS), ("kind", either_of([("no", W), ("yes", N)])), ("name", W)])


def note(count=1, has=(), kind=("no", ""), name="n"):
    return {"count": count, "has": [{"id": key, "name": "n"} for key in has], "kind": kind, "name": name}


FEW = ("less", ("count",), 5)
PAIR = record_of([("a", N), ("b", N)])


def pair(a, b):
    return {"a": a, "b": b}


class ChooseTest(ViewCase):
    def test_made(self):
        yes, no = At("a"), At("b")
        view = Choose(("less", ("a",), 5), yes, no)
        self.assertIsInstance(view, View)
        self.assertEqual(view.look, ("less", ("a",), 5))
        self.assertIs(view.yes, yes)
        self.assertIs(view.no, no)

    def test_behind(self):
        self.stands(Choose(("less", (), 5), View(), Shift(1)), N, N)
        self.stands(Choose(("less", ("a",), 5), At("a"), At("b")), PAIR, N)
        self.stands(Choose(FEW, View(), Chain([])), NOTE, NOTE)
        self.stands(Choose(("less", ("a",), 5), Chain([Take(["a"]), Rename("a", "c")]), Chain([Rename("b", "c"), Take(["c"])])),
                    PAIR, record_of([("c", N)]))
        self.stands(Choose(("some", ()), View(), Keep(SMALL)), ROWS, ROWS)
        self.stands(Choose(("some", ()), Top(), Top()), ("tree", W), W)
        kind = either_of([("a", N), ("b", N)])
        self.stands(Choose(("is", (), "a"), Case("a", Shift(1)), Case("b", Shift(1))), kind, kind)

    def test_looks_of_each_form(self):
        for look in (
            FEW, ("same", ("name",), "x"), ("is", ("kind",), "yes"), ("some", ("has",)), ("not", FEW),
            ("and", FEW, ("some", ("has",))), ("or", FEW, ("same", ("count",), 9)),
        ):
            view = Choose(look, Within("count", Shift(100)), Within("count", Shift(200)))
            self.stands(view, NOTE, NOTE)
            for source, held in (
                (note(4, [1], ("yes", 1), "x"), look[0] != "not"), (note(7, [], ("no", ""), "y"), look[0] == "not"),
            ):
                by = 100 if held else 200
                self.shows(view, NOTE, source, dict(source, count=source["count"] + by))
                self.puts(view, NOTE, source, dict(source, count=source["count"] + by - 1), dict(source, count=source["count"] - 1))

    def test_where_the_look_does_not_stand(self):
        view = Choose(("less", ("a",), 5), At("a"), At("b"))
        self.no_view_but(view, [], ["look"])
        self.no_view(view, record_of([("a", W), ("b", W)]), ["look"])
        self.no_view(Choose(("not", ("some", ("a",))), View(), View()), PAIR, ["look", 1])
        self.no_view(Choose(("and", ("less", ("a",), 5), ("is", ("b",), "x")), View(), View()), PAIR, ["look", 2])
        deep = ("or", ("same", ("a",), 1), ("not", ("and", ("same", ("c",), 1), ("some", ("c",)))))
        self.no_view(Choose(deep, View(), View()), PAIR, ["look", 2, 1, 1])
        self.no_view(Choose(("same", ("a",), "1"), View(), View()), PAIR, ["look"])
        self.no_view(Choose(("same", (), 1), View(), View()), PAIR, ["look"])

    def test_where_an_inner_view_does_not_stand(self):
        look = ("less", ("a",), 5)
        self.no_view(Choose(look, At("c"), At("b")), PAIR, ["yes"])
        self.no_view(Choose(look, At("a"), At("c")), PAIR, ["no"])
        self.no_view(Choose(look, Shift(1), View()), PAIR, ["yes", "shift"])
        self.no_view(Choose(look, View(), Chain([View(), Within("b", Top())])), PAIR, ["no", 1, "b"])
        self.no_view(Choose(look, View(), Choose(look, View(), Choose(look, Top(), Top()))), PAIR, ["no", "no", "yes"])
        self.no_view(Choose(look, View(), Choose(("some", ("a",)), View(), View())), PAIR, ["no", "look"])

    def test_where_the_kinds_behind_differ(self):
        look = ("less", ("a",), 5)
        self.no_view(Choose(look, At("a"), View()), PAIR, [])
        self.no_view(Choose(look, Take(["a"]), Take(["b"])), PAIR, [])
        self.no_view(Choose(("some", ()), Order(), Order("name")), ROWS, [])
        self.no_view(Choose(FEW, At("count"), At("name")), NOTE, [])
        self.stands(Choose(look, Take(["a", "b"]), Take(["b", "a"])), PAIR, PAIR)

    def test_the_order_of_its_faults(self):
        bad, look = ("some", ("a",)), ("less", ("a",), 5)
        self.no_view(Choose(bad, At("c"), At("c")), PAIR, ["look"])
        self.no_view(Choose(bad, At("a"), View()), PAIR, ["look"])
        self.no_view(Choose(look, At("c"), Shift(1)), PAIR, ["yes"])
        self.no_view(Choose(look, View(), Shift(1)), PAIR, ["no", "shift"])
        self.no_view(Choose(look, Shift(1), At("a")), PAIR, ["yes", "shift"])

    def test_see(self):
        view = Choose(("less", ("a",), 5), At("a"), At("b"))
        self.shows(view, PAIR, pair(4, 9), 4)
        self.shows(view, PAIR, pair(5, 9), 9)
        self.shows(Choose(("some", ()), View(), View()), ROWS, [], [])

    def test_put_by_the_view_that_the_source_chooses(self):
        view = Choose(("less", ("a",), 5), At("a"), At("b"))
        self.puts(view, PAIR, pair(4, 9), 3, pair(3, 9))
        self.puts(view, PAIR, pair(5, 9), 3, pair(5, 3))
        self.puts(view, PAIR, pair(5, 9), 77, pair(5, 77))

    def test_put_that_would_choose_the_other_view(self):
        view = Choose(("less", ("a",), 5), At("a"), At("b"))
        self.refuses(view, PAIR, pair(4, 9), 5, [])
        self.refuses(view, PAIR, pair(4, 5), 5, [])
        whole = Choose(("less", (), 5), View(), View())
        self.refuses(whole, N, 4, 5, [])
        self.refuses(whole, N, 5, 4, [])
        self.puts(whole, N, 5, 6, 6)
        self.puts(whole, N, 4, 3, 3)
        kind = either_of([("a", N), ("b", N)])
        self.refuses(Choose(("is", (), "a"), View(), View()), kind, ("a", 1), ("b", 1), [])
        self.refuses(Choose(("is", (), "a"), View(), View()), kind, ("b", 1), ("a", 1), [])
        self.refuses(Choose(("some", ()), View(), View()), ROWS, [], heap(1)[1], [])
        self.refuses(Choose(("some", ()), Keep(SMALL), View()), ROWS, heap(1)[1], [], [])
        self.puts(Choose(("some", ()), Keep(SMALL), View()), ROWS, heap(1, 9)[1], [], heap(9)[1])

    def test_the_look_asks_the_new_source_not_what_is_shown(self):
        view = Choose(("less", (), 5), Shift(100), Shift(-100))
        self.puts(view, N, 4, 101, 1)
        self.puts(view, N, 50, 3, 103)
        self.refuses(view, N, 4, 106, [])
        self.refuses(view, N, 50, -96, [])

    def test_refusals_of_the_inner_views(self):
        view = Choose(("less", (), 5), Shift(0, 10), Shift(0, 20))
        self.refuses(view, N, 4, 11, ["yes", "limit"])
        self.refuses(view, N, 4, 10, [])
        self.refuses(view, N, 6, 21, ["no", "limit"])
        self.puts(view, N, 6, 11, 11)
        chained = Choose(FEW, Chain([View(), Within("has", Keep(SMALL))]), Within("has", Order("")))
        self.refuses(chained, NOTE, note(4, [1]), note(4, [1, 7]), ["yes", 1, "has", 1])
        # The inner view's refusal goes ahead of the look's.
        self.refuses(chained, NOTE, note(4, [1]), note(9, [1, 7]), ["yes", 1, "has", 1])
        self.refuses(chained, NOTE, note(4, [1]), note(9, [1]), [])
        within = Choose(("not", FEW), Within("has", Order("")), Choose(FEW, Within("has", Keep(SMALL)), View()))
        self.refuses(within, NOTE, note(4, [1]), note(4, [1, 7]), ["no", "yes", "has", 1])
        self.refuses(within, NOTE, note(4, [1]), note(9, [1]), ["no"])

    def test_what_does_not_fit_goes_ahead(self):
        view = Choose(("less", (), 5), Shift(0, 10), Shift(0, 20))
        for source in (4, 6):
            for bad in (True, None, "11", [], (11,)):
                self.refuses(view, N, source, bad, [])
        taken = Choose(FEW, Take(["count", "name"]), Chain([Take(["count", "name"])]))
        for source in (note(4), note(6)):
            self.refuses(taken, NOTE, source, {"count": 9, "name": 1}, ["name"])
            self.refuses(taken, NOTE, source, {"count": "", "name": 1}, ["count"])
            self.refuses(taken, NOTE, source, {"count": 1}, [])
            self.refuses_what_does_not_fit(taken, NOTE, source)
        self.refuses_what_does_not_fit(Choose(("some", ()), Keep(SMALL), View()), ROWS, heap(1, 2)[1])
        self.refuses_what_does_not_fit(Choose(("some", ()), Chain([Keep(SMALL)]), View()), ROWS, heap(1, 2)[1])

    def test_grade(self):
        for one, other in itertools.product(("full", "firm", "loose"), repeat=2):
            told = "loose" if "loose" in (one, other) else "firm"
            self.assertEqual(Choose(FEW, Shift(1, worth=one), Shift(1, worth=other)).grade(), told)
        self.assertEqual(Choose(FEW, View(), View()).grade(), "firm")
        self.assertEqual(Choose(FEW, Take([]), Join("a", "b", "c")).grade(), "loose")

    def test_keeps(self):
        view = Choose(FEW, Take(["a", "b"]), Rename("b", "c"))
        self.keeps_just(view, ["a"], ["b", "c", "d"])
        self.keeps_just(Choose(FEW, Rename("b", "c"), Take(["a", "b"])), ["a"], ["b", "c", "d"])
        self.keeps_just(Choose(FEW, View(), View()), ["a", "b"], [])
        self.keeps_just(Choose(FEW, View(), At("a")), [], ["a", "b"])
        self.keeps_just(Choose(FEW, At("a"), View()), [], ["a", "b"])

    def test_laws(self):
        pairs = [pair(a, b) for a in (3, 4, 5, 6) for b in (3, 5)]
        look = ("less", ("a",), 5)
        for view in (
            Choose(look, At("a"), At("b")), Choose(look, At("b"), At("a")), Choose(look, View(), View()),
            Choose(look, Take(["a"]), Chain([Take(["a"])])), Choose(look, Within("a", Shift(2)), Within("b", Shift(-2))),
            Choose(("not", look), Within("a", Shift(2)), Within("b", Shift(-2))),
            Choose(look, Nest(["a"], "a"), Nest(["a"], "a")), Choose(look, Chain([Nest(["a"], "c"), Unnest("c")]), View()),
            Choose(look, Choose(("same", ("b",), 3), At("a"), At("b")), At("a")),
        ):
            self.lawful(view, PAIR, pairs, pairs + [2, 4, 5, 7, {"a": 4}, {"a": 5}, None])

    def test_laws_on_rows_and_shapes(self):
        rows = [heap(*keys)[1] for keys in ((), (1,), (9,), (1, 9), (2, 3, 8))]
        for view in (
            Choose(("some", ()), Keep(SMALL), Keep(("not", SMALL))), Choose(("not", ("some", ())), View(), Keep(SMALL)),
            Choose(("some", ()), Each(Take(["id"])), Each(Take(["id"]))), Choose(("some", ()), Order("name"), Order("name")),
        ):
            self.lawful(view, ROWS, rows, rows + [[{"id": 3}], [{"id": 9}], None])
        for view in (
            Choose(("is", (), "dot"), Case("dot", Shift(3)), View()), Choose(("is", (), "dot"), Case("heap", Keep(SMALL)), View()),
            Choose(("is", (), "heap"), Case("heap", Keep(SMALL)), View()),
        ):
            self.lawful(view, SHAPE, SHAPES, [("dot", 3), None])


class TogetherTest(ViewCase):
    def test_case_and_choose_in_chains(self):
        kind = either_of([("one", PAIR), ("two", N)])
        chain = Chain([Case("one", Take(["a"])), Choose(("is", (), "two"), Case("two", Shift(5)), Case("one", View()))])
        self.no_view(Chain([Case("one", At("a")), Case("one", At("a"))]), kind, [1, "one"])
        self.no_view(Chain([View(), Choose(("is", (), "three"), View(), View())]), kind, [1, "look"])
        self.no_view(Chain([Case("one", At("a")), Choose(("is", (), "one"), Case("two", At("b")), View())]), kind, [1, "yes", "two"])
        self.shows(chain, kind, ("two", 1), ("two", 6))
        self.shows(chain, kind, ("one", pair(1, 2)), ("one", {"a": 1}))
        self.puts(chain, kind, ("one", pair(1, 2)), ("one", {"a": 3}), ("one", pair(3, 2)))
        self.puts(chain, kind, ("two", 1), ("two", 3), ("two", -2))
        self.refuses(chain, kind, ("two", 1), ("one", {"a": 3}), [1])
        self.refuses(chain, kind, ("two", 1), ("one", {"b": 3}), [1, "one"])
        self.assertEqual(chain.grade(), "loose")
        self.assertEqual(chain.put_row(kind, ("one", pair(1, 2)), ("one", {"a": 3})),
                         [("one", pair(3, 2)), ("one", {"a": 3}), ("one", {"a": 3})])

    def test_within_other_views(self):
        shapes = rows_of("id", "", [("id", N), ("shape", SHAPE)])
        view = Each(Within("shape", Case("box", At("wide"))))
        source = [{"id": 1, "shape": box(1, 2)}, {"id": 2, "shape": ("dot", 3)}]
        self.shows(view, shapes, source, [{"id": 1, "shape": ("box", 2)}, {"id": 2, "shape": ("dot", 3)}])
        self.puts(view, shapes, source, [{"id": 1, "shape": ("dot", 2)}, {"id": 2, "shape": ("box", 3)}, {"id": 3, "shape": ("box", 4)}],
                  [{"id": 1, "shape": ("dot", 2)}, {"id": 2, "shape": box(0, 3)}, {"id": 3, "shape": box(0, 4)}])
        self.refuses(view, shapes, source, [{"id": 1, "shape": ("box", {})}], [0, "shape", "box"])
        limited = Each(Within("shape", Case("dot", Shift(0, 10))))
        self.refuses(limited, shapes, source, [{"id": 1, "shape": box(1, 2)}, {"id": 2, "shape": ("dot", 11)}],
                     [1, "shape", "dot", "limit"])
        self.no_view(Each(Within("shape", Case("box", At("x")))), shapes, ["row", "shape", "box"])

    def test_each_row_through_its_own_choice(self):
        kind = rows_of("id", "", [("a", N), ("b", N), ("id", N)])
        view = Each(Choose(("less", ("a",), 5), Take(["a", "id"]), Chain([Take(["a", "id"]), View()])))
        source = [{"id": 1, "a": 3, "b": 1}, {"id": 2, "a": 8, "b": 2}]
        self.shows(view, kind, source, [{"id": 1, "a": 3}, {"id": 2, "a": 8}])
        self.puts(view, kind, source, [{"id": 1, "a": 4}, {"id": 3, "a": 2}], [{"id": 1, "a": 4, "b": 1}, {"id": 3, "a": 2, "b": 0}])
        self.refuses(view, kind, source, [{"id": 1, "a": 4}, {"id": 2, "a": 4}], [1])
        self.refuses(view, kind, source, [{"id": 1, "a": 4}, {"id": 3, "a": 9}], [1])
        self.no_view(Each(Choose(("less", ("a",), 5), View(), Rename("id", "key"))), kind, ["row"])
        self.no_view(Each(Choose(("less", ("a",), 5), Nest(["id"], "id"), Nest(["id"], "id"))), kind, [])
        self.assertEqual(view.grade(), "loose")

    def test_a_tree_of_shapes(self):
        view = Boughs(Case("box", At("high")))
        kind = ("tree", SHAPE)
        source = (box(1, 2), [(("dot", 1), [(box(3, 4), [])])])
        self.shows(view, kind, source, (("box", 1), [(("dot", 1), [(("box", 3), [])])]))
        self.puts(view, kind, source, (("box", 9), [(("box", 8), [(("box", 7), []), (("box", 6), [])])]),
                  (box(9, 2), [(box(8, 0), [(box(7, 4), []), (box(6, 0), [])])]))
        self.refuses(view, kind, source, (("box", 9), [(("nil", 8), [])]), [0, "knot", "nil"])
        self.refuses(Boughs(Case("dot", Shift(0, 5))), kind, source, (box(1, 2), [(("dot", 1), [(("dot", 6), [])])]),
                     [0, 0, "knot", "dot", "limit"])
        chosen = Boughs(Choose(("is", (), "dot"), Case("dot", Shift(1)), View()))
        self.refuses(chosen, kind, source, (box(1, 2), [(box(1, 2), [])]), [0, "knot"])
        rows = Chain([chosen, Unroll("at", "deep", "knot"), Keep(("is", ("knot",), "box"))])
        self.shows(rows, kind, source, [{"at": 0, "deep": 0, "knot": box(1, 2)}, {"at": 2, "deep": 2, "knot": box(3, 4)}])
        self.refuses(rows, kind, source, [{"at": 0, "deep": 0, "knot": ("dot", 2)}], [2, 0])

    def test_ten_deep(self):
        kind, view, seen, way = N, Shift(1, 10), 11, ["limit"]
        for number in range(5):
            kind = record_of([("in", either_of([("a", kind), ("b", N)]))])
            side = Within("in", Case("a", view))
            view = Choose(("is", ("in",), "b"), Chain([View(), side]), Chain([side]))
            seen, way = {"in": ("a", seen)}, ["no", 0, "in", "a"] + way
        source = view.see(kind, view.put(kind, {"in": ("a", kind_empty(kind))}, lowered(seen)))
        self.assertEqual(source, lowered(seen))
        self.refuses(view, kind, {"in": ("a", kind_empty(kind))}, seen, way)
        self.refuses(view, kind, {"in": ("a", kind_empty(kind))}, {"in": ("b", 1)}, [])
        self.assertEqual(view.grade(), "loose")

    def test_what_the_refused_put_leaves(self):
        view = Choose(("less", ("a",), 5), At("a"), At("b"))
        source = pair(4, 9)
        with self.assertRaises(CantPut):
            view.put(PAIR, source, 5)
        self.assertEqual(source, pair(4, 9))
        self.assertEqual(view.put(PAIR, source, 3), pair(3, 9))


def kind_empty(kind):
    """The empty value of what lies in the shape a of the field in."""
    inner = dict(dict(kind[1])["in"][1])["a"]
    return 0 if inner == N else {"in": ("a", kind_empty(inner))}


def lowered(seen):
    return seen - 4 if isinstance(seen, int) else {"in": ("a", lowered(seen["in"][1]))}


if __name__ == "__main__":
    unittest.main()

import copy
import unittest

from viewcase import N, ROW, ROWS, W, Shift, ViewCase

from putback.fields import At, Nest, Rename, Take, Unnest, Within
from putback.kinds import either_of, record_of, rows_of
from putback.views import Chain, View

ABC = record_of([("a", N), ("b", W), ("c", ROWS)])
EMPTY = record_of([])
ONLY_A = record_of([("a", N)])
INNER = record_of([("x", N), ("y", W)])
BOX = record_of([("a", INNER), ("b", N)])


def abc(a=1, b="p", ids=(1, 2)):
    return {"a": a, "b": b, "c": [{"id": number, "name": "n"} for number in ids]}


def box(x=1, y="y", b=2):
    return {"a": {"x": x, "y": y}, "b": b}


class TakeTest(ViewCase):
    def test_made(self):
        view = Take(["b", "a"])
        self.assertIsInstance(view, View)
        self.assertEqual(view.names, ["b", "a"])
        self.assertIsInstance(view.names, list)

    def test_behind_in_the_order_of_names(self):
        self.stands(Take(["a"]), ABC, record_of([("a", N)]))
        self.stands(Take(["c", "a"]), ABC, ("record", (("a", N), ("c", ROWS))))
        self.stands(Take(["c", "b", "a"]), ABC, ABC)
        self.stands(Take([]), ABC, EMPTY)
        self.stands(Take([]), EMPTY, EMPTY)

    def test_where_it_does_not_stand(self):
        self.no_view(Take(["a", "d"]), ABC, [])
        self.no_view(Take(["d"]), ABC, [])
        self.no_view(Take(["a"]), EMPTY, [])
        self.no_view(Take(["a", "a"]), ABC, [])
        self.no_view(Take(["a", "b", "a"]), ABC, [])
        self.no_view_but(Take([]), ["record"], [])
        self.no_view_but(Take(["id"]), ["record"], [])

    def test_see(self):
        self.shows(Take(["a"]), ABC, abc(), {"a": 1})
        self.shows(Take(["c", "a"]), ABC, abc(), {"a": 1, "c": abc()["c"]})
        self.shows(Take([]), ABC, abc(), {})
        self.shows(Take(["b", "c", "a"]), ABC, abc(), abc())
        self.shows(Take([]), EMPTY, {}, {})

    def test_put(self):
        self.puts(Take(["a"]), ABC, abc(), {"a": 9}, abc(a=9))
        self.puts(Take(["c", "b"]), ABC, abc(), {"b": "q", "c": []}, abc(b="q", ids=()))
        self.puts(Take([]), ABC, abc(), {}, abc())
        self.puts(Take(["a", "c", "b"]), ABC, abc(), abc(0, "", ()), abc(0, "", ()))

    def test_refusals(self):
        self.refuses(Take(["a", "b"]), ABC, abc(), {"a": 1}, [])
        self.refuses(Take(["a", "b"]), ABC, abc(), abc(), [])
        self.refuses(Take(["b", "a"]), ABC, abc(), {"a": "1", "b": 1}, ["a"])
        self.refuses(Take(["c"]), ABC, abc(), {"c": [{"id": 2, "name": "a"}, {"id": 1, "name": "a"}]}, ["c", 1])
        self.refuses(Take([]), ABC, abc(), {"a": 1}, [])
        self.refuses(Take([]), ABC, abc(), None, [])
        self.refuses_what_does_not_fit(Take(["c", "a"]), ABC, abc())

    def test_the_list_of_names_stays_and_may_change_later(self):
        names = ["b", "a"]
        view = Take(names)
        view.put(ABC, abc(), {"a": 1, "b": "q"})
        self.assertEqual(names, ["b", "a"])
        names[0] = "c"
        names.append("d")
        self.assertEqual(view.names, ["b", "a"])
        self.shows(view, ABC, abc(), {"a": 1, "b": "p"})
        self.keeps_just(view, ["a", "b"], ["c", "d"])

    def test_grade_and_keeps(self):
        self.assertEqual(Take(["a"]).grade(), "firm")
        self.assertEqual(Take([]).grade(), "firm")
        self.keeps_just(Take(["b", "a"]), ["a", "b"], ["c", "d", ""])
        self.keeps_just(Take([]), [], ["a", "b"])

    def test_laws(self):
        sources = [abc(a, b, ids) for a in (0, 1) for b in ("", "p") for ids in ((), (1, 3))]
        for names in ([], ["a"], ["c", "a"], ["a", "b", "c"]):
            seens = [{name: source[name] for name in names} for source in sources] + [{}, {"a": 5}, {"a": "5"}]
            self.lawful(Take(names), ABC, sources, seens)


class RenameTest(ViewCase):
    def test_made(self):
        view = Rename("a", "d")
        self.assertIsInstance(view, View)
        self.assertEqual((view.old, view.new), ("a", "d"))

    def test_behind_in_the_order_of_names(self):
        self.stands(Rename("a", "d"), ABC, ("record", (("b", W), ("c", ROWS), ("d", N))))
        self.stands(Rename("c", "aa"), ABC, ("record", (("a", N), ("aa", ROWS), ("b", W))))

    def test_where_it_does_not_stand(self):
        self.no_view(Rename("d", "e"), ABC, [])
        self.no_view(Rename("a", "b"), ABC, [])
        self.no_view(Rename("a", "a"), ABC, [])
        self.no_view(Rename("d", "d"), ABC, [])
        self.no_view(Rename("d", "a"), ABC, [])
        self.no_view(Rename("a", "b"), EMPTY, [])
        self.no_view_but(Rename("id", "key"), ["record"], [])

    def test_see_and_put(self):
        view = Rename("a", "d")
        self.shows(view, ABC, abc(), {"d": 1, "b": "p", "c": abc()["c"]})
        self.puts(view, ABC, abc(), {"d": 7, "b": "q", "c": []}, abc(7, "q", ()))
        self.puts(Rename("id", "key"), ROW, {"id": 1, "name": "a"}, {"key": 2, "name": "b"}, {"id": 2, "name": "b"})

    def test_refusals(self):
        view = Rename("a", "d")
        self.refuses(view, ABC, abc(), abc(), [])
        self.refuses(view, ABC, abc(), {"b": "", "c": [], "d": ""}, ["d"])
        self.refuses(view, ABC, abc(), {"b": 1, "c": [], "d": ""}, ["b"])
        self.refuses_what_does_not_fit(view, ABC, abc())

    def test_grade_and_keeps(self):
        self.assertEqual(Rename("a", "d").grade(), "full")
        self.keeps_just(Rename("a", "d"), ["b", "c", "e"], ["a", "d"])

    def test_laws(self):
        sources = [abc(a, b, ids) for a in (0, 1) for b in ("", "p") for ids in ((), (1, 3))]
        seens = [{"d": 5, "b": "", "c": []}, {"d": "5", "b": "", "c": []}, abc()]
        self.lawful(Rename("a", "d"), ABC, sources, seens)


class NestTest(ViewCase):
    def test_made(self):
        view = Nest(["b", "a"], "d")
        self.assertIsInstance(view, View)
        self.assertEqual((view.names, view.into), (["b", "a"], "d"))
        self.assertIsInstance(view.names, list)

    def test_behind_in_the_order_of_names(self):
        inner = ("record", (("a", N), ("b", W)))
        self.stands(Nest(["b", "a"], "d"), ABC, ("record", (("c", ROWS), ("d", inner))))
        self.stands(Nest(["b", "a"], "bb"), ABC, ("record", (("bb", inner), ("c", ROWS))))
        self.stands(Nest([], "aa"), ABC, ("record", (("a", N), ("aa", EMPTY), ("b", W), ("c", ROWS))))
        self.stands(Nest(["c", "b", "a"], "d"), ABC, ("record", (("d", ABC),)))
        self.stands(Nest([], "d"), EMPTY, ("record", (("d", EMPTY),)))

    def test_into_one_of_its_names(self):
        inner = ("record", (("a", N), ("b", W)))
        view = Nest(["a", "b"], "b")
        self.stands(view, ABC, ("record", (("b", inner), ("c", ROWS))))
        self.shows(view, ABC, abc(), {"b": {"a": 1, "b": "p"}, "c": abc()["c"]})
        self.puts(view, ABC, abc(), {"b": {"a": 5, "b": "q"}, "c": []}, abc(5, "q", ()))
        self.stands(Nest(["a"], "a"), ONLY_A, record_of([("a", ONLY_A)]))
        self.shows(Nest(["a"], "a"), ONLY_A, {"a": 1}, {"a": {"a": 1}})

    def test_where_it_does_not_stand(self):
        self.no_view(Nest(["a", "d"], "e"), ABC, [])
        self.no_view(Nest(["a", "a"], "e"), ABC, [])
        self.no_view(Nest(["a", "b"], "c"), ABC, [])
        self.no_view(Nest([], "a"), ABC, [])
        self.no_view(Nest(["d"], "d"), ABC, [])
        self.no_view_but(Nest([], "d"), ["record"], [])
        self.no_view_but(Nest(["id"], "d"), ["record"], [])

    def test_see_and_put(self):
        view = Nest(["b", "a"], "d")
        self.shows(view, ABC, abc(), {"c": abc()["c"], "d": {"a": 1, "b": "p"}})
        self.puts(view, ABC, abc(), {"c": [], "d": {"a": 5, "b": "q"}}, abc(5, "q", ()))

    def test_no_names_and_all_names(self):
        self.shows(Nest([], "d"), ABC, abc(), {**abc(), "d": {}})
        self.puts(Nest([], "d"), ABC, abc(), {**abc(3, "s", ()), "d": {}}, abc(3, "s", ()))
        self.shows(Nest(["a", "b", "c"], "d"), ABC, abc(), {"d": abc()})
        self.puts(Nest(["c", "b", "a"], "d"), ABC, abc(), {"d": abc(3, "s", ())}, abc(3, "s", ()))
        self.puts(Nest([], "d"), EMPTY, {}, {"d": {}}, {})

    def test_refusals(self):
        view = Nest(["b", "a"], "d")
        self.refuses(view, ABC, abc(), abc(), [])
        self.refuses(view, ABC, abc(), {"c": [], "d": {"a": 1}}, ["d"])
        self.refuses(view, ABC, abc(), {"c": [], "d": {"a": 1, "b": 1}}, ["d", "b"])
        self.refuses(view, ABC, abc(), {"c": None, "d": {"a": 1, "b": 1}}, ["c"])
        self.refuses(Nest([], "d"), ABC, abc(), {**abc(), "d": {"a": 1}}, ["d"])
        self.refuses_what_does_not_fit(view, ABC, abc())
        self.refuses_what_does_not_fit(Nest(["a"], "a"), ABC, abc())

    def test_the_list_of_names_stays_and_may_change_later(self):
        names = ["b", "a"]
        view = Nest(names, "d")
        view.put(ABC, abc(), view.see(ABC, abc()))
        self.assertEqual(names, ["b", "a"])
        names.clear()
        self.assertEqual(view.names, ["b", "a"])
        self.shows(view, ABC, abc(), {"c": abc()["c"], "d": {"a": 1, "b": "p"}})

    def test_grade_and_keeps(self):
        self.assertEqual(Nest(["a"], "d").grade(), "full")
        self.keeps_just(Nest(["b", "a"], "d"), ["c", "e"], ["a", "b", "d"])
        self.keeps_just(Nest(["b", "a"], "b"), ["c", "d"], ["a", "b"])
        self.keeps_just(Nest([], "d"), ["a", "c"], ["d"])

    def test_laws(self):
        sources = [abc(a, b, ids) for a in (0, 1) for b in ("", "p") for ids in ((), (1, 3))]
        for names, into in ([], "d"), (["b", "a"], "d"), (["b", "a"], "a"), (["a", "b", "c"], "d"):
            self.lawful(Nest(names, into), ABC, sources, [abc(), {"d": {}}, {**abc(), "d": {}}, {**abc(), "d": 1}])


class UnnestTest(ViewCase):
    def test_made(self):
        view = Unnest("a")
        self.assertIsInstance(view, View)
        self.assertEqual(view.field, "a")

    def test_behind_in_the_order_of_names(self):
        self.stands(Unnest("a"), BOX, ("record", (("b", N), ("x", N), ("y", W))))
        self.stands(Unnest("b"), record_of([("a", N), ("b", INNER)]), ("record", (("a", N), ("x", N), ("y", W))))
        self.stands(Unnest("a"), record_of([("a", record_of([("c", N), ("zz", ROWS)])), ("m", W)]),
                    ("record", (("c", N), ("m", W), ("zz", ROWS))))

    def test_where_it_does_not_stand(self):
        self.no_view(Unnest("c"), BOX, [])
        self.no_view(Unnest("b"), BOX, [])
        for kind in (N, W, rows_of("x", "", INNER[1]), ("tree", INNER), either_of(INNER[1])):
            self.no_view(Unnest("a"), record_of([("a", kind), ("b", N)]), [])
        self.no_view(Unnest("a"), record_of([("a", INNER), ("x", N)]), [])
        self.no_view(Unnest("a"), record_of([("a", INNER), ("y", N)]), [])
        self.no_view(Unnest("a"), EMPTY, [])
        self.no_view_but(Unnest("id"), [], [])

    def test_see_and_put(self):
        self.shows(Unnest("a"), BOX, box(), {"b": 2, "x": 1, "y": "y"})
        self.puts(Unnest("a"), BOX, box(), {"b": 5, "x": 6, "y": ""}, box(6, "", 5))

    def test_an_empty_record(self):
        kind = record_of([("a", EMPTY), ("b", N)])
        self.stands(Unnest("a"), kind, record_of([("b", N)]))
        self.shows(Unnest("a"), kind, {"a": {}, "b": 1}, {"b": 1})
        self.puts(Unnest("a"), kind, {"a": {}, "b": 1}, {"b": 2}, {"a": {}, "b": 2})
        alone = record_of([("a", EMPTY)])
        self.stands(Unnest("a"), alone, EMPTY)
        self.shows(Unnest("a"), alone, {"a": {}}, {})
        self.refuses(Unnest("a"), alone, {"a": {}}, {"a": {}}, [])

    def test_an_inner_field_of_its_own_name(self):
        kind = record_of([("a", record_of([("a", N), ("x", W)])), ("b", N)])
        source = {"a": {"a": 1, "x": "p"}, "b": 2}
        self.stands(Unnest("a"), kind, ("record", (("a", N), ("b", N), ("x", W))))
        self.shows(Unnest("a"), kind, source, {"a": 1, "b": 2, "x": "p"})
        self.puts(Unnest("a"), kind, source, {"a": 5, "b": 6, "x": ""}, {"a": {"a": 5, "x": ""}, "b": 6})
        self.refuses_what_does_not_fit(Unnest("a"), kind, source)
        twice = record_of([("a", record_of([("a", record_of([("a", N)]))]))])
        self.stands(Chain([Unnest("a"), Unnest("a")]), twice, ONLY_A)
        self.puts(Chain([Unnest("a"), Unnest("a")]), twice, {"a": {"a": {"a": 1}}}, {"a": 2}, {"a": {"a": {"a": 2}}})

    def test_refusals(self):
        self.refuses(Unnest("a"), BOX, box(), box(), [])
        self.refuses(Unnest("a"), BOX, box(), {"b": 2, "x": 1}, [])
        self.refuses(Unnest("a"), BOX, box(), {"b": 2, "x": "", "y": 1}, ["x"])
        self.refuses_what_does_not_fit(Unnest("a"), BOX, box())

    def test_grade_and_keeps(self):
        self.assertEqual(Unnest("a").grade(), "full")
        self.keeps_just(Unnest("a"), ["b", "x", "y"], ["a"])

    def test_laws(self):
        sources = [box(x, y, b) for x in (0, 1) for y in ("", "y") for b in (0, 2)]
        self.lawful(Unnest("a"), BOX, sources, [{"b": 9, "x": 9, "y": "z"}, {"b": 9, "x": 9}, box()])


class WithinTest(ViewCase):
    def test_made(self):
        inner = Take(["x"])
        view = Within("a", inner)
        self.assertIsInstance(view, View)
        self.assertEqual(view.field, "a")
        self.assertIs(view.inner, inner)

    def test_behind(self):
        self.stands(Within("a", View()), BOX, BOX)
        self.stands(Within("a", Take(["y"])), BOX, ("record", (("a", record_of([("y", W)])), ("b", N))))
        self.stands(Within("b", Shift(1)), BOX, BOX)
        self.stands(Within("a", At("y")), BOX, ("record", (("a", W), ("b", N))))
        self.stands(Within("b", View()), ABC, ABC)

    def test_where_it_does_not_stand(self):
        self.no_view(Within("c", View()), BOX, [])
        self.no_view(Within("c", Take(["q"])), BOX, [])
        self.no_view(Within("a", Take(["q"])), BOX, ["a"])
        self.no_view(Within("b", Take([])), BOX, ["b"])
        self.no_view(Within("a", Shift(1)), BOX, ["a", "shift"])
        self.no_view(Within("a", Chain([View(), Take(["q"])])), BOX, ["a", 1])
        self.no_view(Within("a", Within("x", Shift(1))), record_of([("a", record_of([("x", W)]))]), ["a", "x", "shift"])
        self.no_view(Within("a", Within("z", View())), BOX, ["a"])
        self.no_view(Within("a", View()), EMPTY, [])
        self.no_view_but(Within("id", View()), ["record"], [])

    def test_see_and_put(self):
        view = Within("a", Take(["y"]))
        self.shows(view, BOX, box(), {"a": {"y": "y"}, "b": 2})
        self.puts(view, BOX, box(), {"a": {"y": "z"}, "b": 7}, box(1, "z", 7))
        self.shows(Within("b", Shift(5)), BOX, box(), box(b=7))
        self.puts(Within("b", Shift(5)), BOX, box(), box(9, "q", 0), box(9, "q", -5))
        self.puts(Within("a", View()), BOX, box(), box(4, "", 5), box(4, "", 5))

    def test_several_deep(self):
        kind = record_of([("p", record_of([("a", INNER), ("q", W)])), ("r", N)])
        source = {"p": {"a": {"x": 1, "y": "y"}, "q": "q"}, "r": 3}
        view = Within("p", Within("a", Within("x", Shift(10, 50))))
        self.stands(view, kind, kind)
        self.shows(view, kind, source, {"p": {"a": {"x": 11, "y": "y"}, "q": "q"}, "r": 3})
        self.puts(view, kind, source, {"p": {"a": {"x": 20, "y": ""}, "q": ""}, "r": 0},
                  {"p": {"a": {"x": 10, "y": ""}, "q": ""}, "r": 0})
        self.refuses(view, kind, source, {"p": {"a": {"x": 51, "y": ""}, "q": ""}, "r": 0}, ["p", "a", "x", "limit"])
        self.refuses(view, kind, source, {"p": {"a": {"x": 51, "y": ""}, "q": 0}, "r": 0}, ["p", "q"])
        chained = Within("p", Chain([View(), Within("a", Chain([Within("x", Chain([Shift(1), Shift(9, 50)]))]))]))
        self.shows(chained, kind, source, {"p": {"a": {"x": 11, "y": "y"}, "q": "q"}, "r": 3})
        self.refuses(chained, kind, source, {"p": {"a": {"x": 51, "y": ""}, "q": ""}, "r": 0},
                     ["p", 1, "a", 0, "x", 1, "limit"])

    def test_what_does_not_fit_goes_ahead_of_the_inner_refusal(self):
        view = Within("b", Shift(0, 5))
        self.refuses(view, BOX, box(), box(b=6), ["b", "limit"])
        self.refuses(view, BOX, box(), box(b="6"), ["b"])
        self.refuses(view, BOX, box(), box(x="1", b=6), ["a", "x"])
        self.refuses(Within("a", Within("x", Shift(0, 5))), BOX, box(), box(x=6, b=""), ["b"])
        self.refuses(Within("a", Within("x", Shift(0, 5))), BOX, box(), box(x=6, y=1), ["a", "y"])
        self.refuses(Within("a", Chain([View(), Take(["x"])])), BOX, box(), {"a": {"x": ""}, "b": 1}, ["a", "x"])
        self.refuses_what_does_not_fit(Within("a", Take(["y"])), BOX, box())
        self.refuses_what_does_not_fit(Within("a", Chain([Take(["y"]), Rename("y", "z")])), BOX, box())

    def test_grade_and_keeps(self):
        for grade in ("full", "firm", "loose"):
            self.assertEqual(Within("a", Shift(1, worth=grade)).grade(), grade)
            self.assertEqual(Within("a", Within("b", Chain([View(), Shift(1, worth=grade)]))).grade(), grade)
        self.assertEqual(Within("a", View()).grade(), "full")
        self.assertEqual(Within("a", Take([])).grade(), "firm")
        self.keeps_just(Within("a", View()), ["b", "x", "y"], ["a"])
        self.keeps_just(Within("a", Take(["x"])), ["b", "x", "y"], ["a"])

    def test_laws(self):
        sources = [box(x, y, b) for x in (0, 1) for y in ("", "y") for b in (0, 2)]
        seens = sources + [{"a": {"x": 7}, "b": 1}, {"a": {"x": 8}, "b": 3}, {"a": 1, "b": 1}, box(b=6), box(b=5)]
        for view in (Within("a", Take(["x"])), Within("a", View()), Within("b", Shift(3, 5)), Within("a", At("x")),
                     Within("a", Nest(["x"], "x"))):
            self.lawful(view, BOX, sources, seens)


class AtTest(ViewCase):
    def test_made(self):
        view = At("a")
        self.assertIsInstance(view, View)
        self.assertEqual(view.name, "a")

    def test_behind(self):
        self.stands(At("a"), ABC, N)
        self.stands(At("b"), ABC, W)
        self.stands(At("c"), ABC, ROWS)
        self.stands(At("a"), BOX, INNER)

    def test_where_it_does_not_stand(self):
        self.no_view(At("d"), ABC, [])
        self.no_view(At("a"), EMPTY, [])
        self.no_view_but(At("id"), ["record"], [])

    def test_see_and_put(self):
        self.shows(At("a"), ABC, abc(), 1)
        self.puts(At("a"), ABC, abc(), 9, abc(a=9))
        self.shows(At("c"), ABC, abc(), abc()["c"])
        self.puts(At("c"), ABC, abc(), [], abc(ids=()))
        self.puts(At("a"), BOX, box(), {"x": 5, "y": ""}, box(5, ""))

    def test_several_deep(self):
        chain = Chain([At("a"), At("y")])
        self.stands(chain, BOX, W)
        self.shows(chain, BOX, box(), "y")
        self.puts(chain, BOX, box(), "z", box(y="z"))
        self.refuses(chain, BOX, box(), 1, [1])
        self.no_view(Chain([At("a"), At("z")]), BOX, [1])
        self.shows(Chain([At("a"), At("x"), Shift(2)]), BOX, box(), 3)

    def test_refusals(self):
        self.refuses(At("a"), ABC, abc(), True, [])
        self.refuses(At("a"), ABC, abc(), abc(), [])
        self.refuses(At("b"), ABC, abc(), 1, [])
        self.refuses(At("c"), ABC, abc(), [{"id": 1, "name": 1}], [0, "name"])
        self.refuses_what_does_not_fit(At("c"), ABC, abc())
        self.refuses_what_does_not_fit(At("a"), BOX, box())

    def test_grade_and_keeps(self):
        self.assertEqual(At("a").grade(), "firm")
        self.keeps_just(At("a"), [], ["a", "b", "name"])

    def test_laws(self):
        sources = [abc(a, b, ids) for a in (0, 1) for b in ("", "p") for ids in ((), (1, 3))]
        for name in "abc":
            self.lawful(At(name), ABC, sources, [5, "q", True, [], [{"id": 4, "name": "m"}], None])


class KeptNameTest(ViewCase):
    def test_a_kept_name_is_passed_on(self):
        kind = record_of([("a", INNER), ("b", N), ("k", W)])
        source = {"a": {"x": 1, "y": "y"}, "b": 2, "k": "old"}
        views = [
            View(), Take(["k", "a"]), Rename("b", "z"), Nest(["b"], "z"), Unnest("a"), Within("a", Take(["x"])),
            Chain([Rename("b", "z"), Take(["z", "k"]), Nest(["z"], "b")]),
        ]
        for view in views:
            self.keeps_just(view, ["k"], [])
            self.assertIn(("k", W), view.behind(kind)[1])
            seen = view.see(kind, source)
            self.assertEqual(seen["k"], "old")
            self.puts(view, kind, source, {**seen, "k": "new"}, {**copy.deepcopy(source), "k": "new"})


if __name__ == "__main__":
    unittest.main()

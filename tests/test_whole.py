"""The whole program: views read from their texts, asked of several kinds, carried through, hung on desks; the bounds."""

import copy
import unittest

from notecase import told_of
from viewcase import N, W, ViewCase, outcome, told_or_refused
from viewpool import SOURCES, VIEWS, chains, changed, picked, seen_values

from putback.asks import looked_at, put_text, seen_text
from putback.carry import carried_back, carried_on, rows_back, rows_on, steps_back
from putback.choices import Case, Choose
from putback.desk import Desk
from putback.errors import NoView
from putback.fields import Nest, Rename, Take, Within
from putback.kindnotes import read_kind, read_value, written_kind, written_value
from putback.kinds import either_of, record_of, rows_of
from putback.looks import holds, unsound
from putback.papers import between, done, turned
from putback.tables import Beside, Each, Group, Keep, Order
from putback.trees import Boughs, Unroll
from putback.values import copied, empty, misfit
from putback.viewnotes import read_look, read_view, written_look, written_view
from putback.views import Chain, View


def as_read(view):
    """The view with its inner views as they are read from a text: as chains."""
    made = copy.copy(view)
    for name in ("inner", "yes", "no"):
        if name in vars(view):
            setattr(made, name, inner_as_read(vars(view)[name]))
    if isinstance(view, Chain):
        made.steps = [as_read(step) for step in view.steps]
    return made


def inner_as_read(view):
    return as_read(view) if isinstance(view, Chain) else Chain([as_read(view)])


def all_chains(count, length=3):
    """Chains that stand and chains of which the last step does not, over several kinds, with what their text is read as."""
    for kind, sources in SOURCES:
        every = list(chains(kind, VIEWS, length))
        good = [steps for steps, way in every if way is None]
        bad = [steps for steps, way in every if way is not None]
        for steps in picked(good, count) + picked(bad, count // 4):
            chain = Chain([as_read(step) for step in steps])
            yield chain, read_view(written_view(Chain(steps))), kind, sources


def stands(view, kind):
    return told_or_refused(view.behind, kind)[0] == "told"


class FromTextsTest(ViewCase):
    """What the view of a text tells is what the view itself tells."""

    def test_what_is_read_is_the_view(self):
        for chain, read, kind, sources in all_chains(150):
            self.assertEqual(told_of(read), told_of(chain))
            self.assertEqual(written_view(read), written_view(chain))

    def test_all_that_a_view_tells(self):
        for chain, read, kind, sources in all_chains(100):
            self.assertEqual(told_or_refused(read.behind, kind), told_or_refused(chain.behind, kind))
            self.assertEqual(told_or_refused(read.kinds_row, kind), told_or_refused(chain.kinds_row, kind))
            self.assertEqual(read.grade(), chain.grade())
            for name in ("id", "n", "w", "in", "left", "right", "zz"):
                self.assertIs(read.keeps(name), chain.keeps(name))
            if not stands(chain, kind):
                continue
            for source in sources[-2:]:
                self.assertEqual(read.see(kind, source), chain.see(kind, source))
                self.assertEqual(read.seen_row(kind, source), chain.seen_row(kind, source))
                for seen in seen_values(chain, kind, sources[-2:], 4) + [None, [], {}]:
                    self.assertEqual(outcome(read, kind, source, seen), outcome(chain, kind, source, seen))
                    self.assertEqual(told_or_refused(read.put_row, kind, source, seen), told_or_refused(chain.put_row, kind, source, seen))

    def test_asked_in_texts(self):
        for chain, read, kind, sources in all_chains(80):
            kind_text, view_text = written_kind(kind), written_view(read)
            told = told_or_refused(chain.behind, kind)
            if told[0] != "told":
                self.assertEqual(told_or_refused(looked_at, kind_text, view_text), told)
                self.assertEqual(told_or_refused(seen_text, kind_text, view_text, "!"), told)
                self.assertEqual(told_or_refused(put_text, kind_text, view_text, "!", "!"), told)
                continue
            behind = told[1]
            self.assertEqual(looked_at(kind_text, view_text), (written_kind(behind), chain.grade()))
            for source in sources[-2:]:
                source_text = written_value(kind, source)
                self.assertEqual(read_value(kind, source_text), source)
                self.assertEqual(seen_text(kind_text, view_text, source_text), written_value(behind, chain.see(kind, source)))
                for seen in seen_values(chain, kind, sources[-2:], 3):
                    new = told_or_refused(chain.put, kind, source, seen)
                    new = ("told", written_value(kind, new[1])) if new[0] == "told" else new
                    self.assertEqual(told_or_refused(put_text, kind_text, view_text, source_text, written_value(behind, seen)), new)

    def test_kinds_behind_are_written_and_read(self):
        for chain, read, kind, sources in all_chains(100):
            if stands(read, kind):
                behind = read.behind(kind)
                self.assertEqual(read_kind(written_kind(behind)), behind)
                for source in sources:
                    shown = read.see(kind, source)
                    self.assertEqual(read_value(behind, written_value(behind, shown)), shown)

    def test_papers_carried(self):
        for chain, read, kind, sources in all_chains(40):
            if not stands(read, kind):
                continue
            source = sources[-1]
            for other in picked(changed(kind, source), 2):
                paper = between(kind, source, other)
                self.assertEqual(carried_on(read, kind, source, paper), carried_on(chain, kind, source, paper))
                self.assertEqual(rows_on(read, kind, source, paper)[-1], carried_on(chain, kind, source, paper))
                self.assertEqual(done(kind, turned(kind, paper, source), done(kind, paper, source)), source)
            behind, shown = read.behind(kind), read.see(kind, source)
            for other in picked(changed(behind, shown), 3):
                paper = between(behind, shown, other)
                for ask in (carried_back, rows_back, steps_back):
                    self.assertEqual(told_or_refused(ask, read, kind, source, paper), told_or_refused(ask, chain, kind, source, paper))

    def test_desks(self):
        for kind, sources in SOURCES:
            of_texts, of_views = Desk(kind, sources[-1]), Desk(kind, sources[-1])
            good = [steps for steps, way in chains(kind, VIEWS, 2) if way is None]
            names = [first + second for first in "abcde" for second in "fghi"]
            for name, steps in zip(names, picked(good, 20)):
                of_texts.hang(name, read_view(written_view(Chain(steps))))
                of_views.hang(name, Chain([as_read(step) for step in steps]))
            for name in names[:len(of_texts.hung())]:
                self.assertEqual(of_texts.seen_by(name), of_views.seen_by(name))
                behind = read_kind(looked_at(written_kind(kind), written_view(Chain(good[0])))[0])
                self.assertEqual(behind, Chain(good[0]).behind(kind))
                for seen in [of_texts.seen_by(name), None]:
                    self.assertEqual(told_or_refused(of_texts.put_by, name, seen), told_or_refused(of_views.put_by, name, seen))
            for other in picked(changed(kind, sources[-1]), 4):
                paper = between(kind, of_texts.source_now(), other)
                self.assertEqual(of_texts.change(paper), of_views.change(paper))
            self.assertEqual(of_texts.undo(), of_views.undo())
            self.assertEqual(of_texts.source_now(), of_views.source_now())


class OneViewManyKindsTest(ViewCase):
    """A view remembers nothing: asked of several kinds one behind the other, it tells what a fresh one tells."""

    def test_every_kind_in_turn(self):
        for view in VIEWS + [Chain([one, other]) for one in VIEWS[::3] for other in VIEWS[::4]]:
            text = written_view(view)
            read, held = read_view(text), told_of(view)
            for kind, sources in SOURCES + SOURCES[::-1]:
                fresh = read_view(text)
                told = told_or_refused(fresh.behind, kind)
                self.assertEqual(told_or_refused(read.behind, kind), told)
                if told[0] == "told":
                    self.assertEqual(read.see(kind, sources[-1]), fresh.see(kind, sources[-1]))
                    for seen in seen_values(fresh, kind, sources[-2:], 2) + [None]:
                        self.assertEqual(outcome(read, kind, sources[0], seen), outcome(fresh, kind, sources[0], seen))
            self.assertEqual(told_of(view), held)
            self.assertEqual(written_view(read), text)

    def test_a_source_handed_in_anew_is_seen_as_it_is_then(self):
        kind = rows_of("id", "", [("id", N), ("n", N)])
        source = [{"id": 1, "n": 2}]
        for view in (View(), Beside("n", "all", "sum"), Keep(("less", ("n",), 5)), Chain([Order("n"), Each(Take(["id", "n"]))])):
            before = copy.deepcopy(view.see(kind, [{"id": 1, "n": 2}]))
            self.assertEqual(view.see(kind, source), before)
            source[0]["n"] = 4
            self.assertEqual(view.see(kind, source), view.see(kind, [{"id": 1, "n": 4}]))
            self.assertNotEqual(view.see(kind, source), before)
            source[0]["n"] = 2
            self.assertEqual(view.see(kind, source), before)


class BoundsTest(ViewCase):
    def test_numbers_and_words(self):
        kind = rows_of("id", "", [("id", N), ("w", W)])
        great = 10 ** 60 - 1
        source = [{"id": great - number, "w": "~!#$&' " * 5 + "abcde"} for number in range(59, -1, -1)]
        self.assertIsNone(misfit(kind, source))
        text = written_value(kind, source)
        shown = seen_text(written_kind(kind), "beside id as all with sum", text)
        self.assertEqual(shown, "{all: " + text + ", sum: " + str(60 * great - 1770) + "}")
        self.assertEqual(put_text(written_kind(kind), "beside id as all with sum", text, shown), text)
        self.assertEqual(read_look("same [] -" + "9" * 80), ("same", (), -int("9" * 80)))

    def test_twelve_fields_and_chains_of_twelve(self):
        names = [letter * 12 for letter in "abcdefghijkl"]
        kind = record_of([(name, N) for name in names])
        source = {name: number for number, name in enumerate(names)}
        text = " then ".join("rename " + name + " as " + name[1:] for name in names)
        view = read_view(text)
        self.assertEqual(view.see(kind, source), {name[1:]: source[name] for name in names})
        self.assertEqual(view.put(kind, source, {name[1:]: 7 for name in names}), {name: 7 for name in names})
        self.assertEqual(len(rows_on(view, kind, source, [("set", (names[5],), 9)])), 13)
        self.assertEqual(rows_back(view, kind, source, [("set", (names[5][1:],), 9)])[0], [("set", (names[5],), 9)])
        self.assertEqual(outcome(view, kind, source, {}), ("refused", [11]))
        wider = read_view("nest [" + ", ".join(names[:6]) + "] as in then nest [] as no then unnest in")
        self.assertEqual(len(wider.behind(kind)[1]), 13)
        self.assertEqual(wider.put(kind, source, wider.see(kind, source)), source)

    def test_sixty_rows_and_sixty_steps(self):
        kind = rows_of("id", "w", [("id", N), ("w", W)])
        source = [{"id": number, "w": "a"} for number in range(60)]
        paper = [("set", (number, "w"), "b") for number in range(60)]
        view = read_view('order [] then keep (not (same [w] "c")) then each (rename w as v) then each (rename v as w)')
        with self.assertRaises(NoView):
            view.behind(rows_of("w", "", [("id", N), ("w", W)]))
        self.assertEqual(carried_back(view, kind, source, paper), paper)
        self.assertEqual(steps_back(view, kind, source, paper), [[step] for step in paper])
        desk = Desk(kind, source)
        desk.hang("a", view)
        self.assertEqual(desk.change(paper), [("a", paper)])
        more = [{"id": number, "w": "b"} for number in range(200)]
        self.assertEqual(dict(desk.put_by("a", more))["a"], [("add", (), row) for row in more[60:]])
        self.assertEqual(desk.source_now(), more)

    def test_a_tree_of_sixty_knots(self):
        tree = (1, [])
        for number in range(59):
            tree = (number, [tree])
        kind = ("tree", N)
        text = written_value(kind, tree)
        self.assertEqual(read_value(kind, text), tree)
        rows = Unroll("at", "deep", "knot").see(kind, tree)
        self.assertEqual([row["deep"] for row in rows], list(range(60)))
        self.assertEqual(Unroll("at", "deep", "knot").put(kind, empty(kind), rows), tree)
        self.assertEqual(put_text("tree number", "boughs (" + "(" * 99 + ")" * 99 + ")", text, "<7>"), "<7>")
        self.assertEqual(Boughs(View()).put(kind, (0, []), tree), tree)
        self.assertEqual(copied(kind, tree), tree)
        path = (0,) * 59 + ("knot",)
        self.assertEqual(carried_back(read_view("boughs () then unroll [a, b, c]"), kind, tree, [("set", (59, "c"), 5)]), [("set", path, 5)])

    def test_kinds_nested_eight_deep(self):
        kind, value = N, 5
        around = [
            (lambda kind: record_of([("a", kind), ("b", N)]), lambda value: {"a": value, "b": 1}),
            (lambda kind: ("tree", kind), lambda value: (value, [])),
            (lambda kind: either_of([("a", kind), ("b", N)]), lambda value: ("a", value)),
            (lambda kind: rows_of("id", "", [("id", N), ("x", kind)]), lambda value: [{"id": 1, "x": value}]),
        ]
        for number in range(7):
            kind, value = around[number % 4][0](kind), around[number % 4][1](value)
        text = "case a (boughs (within a (each (within x (case a (boughs (within a ())))))))"
        self.assertEqual(kind[0], "either")
        view = read_view(text)
        self.assertEqual(view.behind(kind), kind)
        self.assertEqual(view.see(kind, value), value)
        self.assertEqual(view.grade(), "full")
        self.assertEqual(seen_text(written_kind(kind), text, written_value(kind, value)), written_value(kind, value))
        self.assertEqual(put_text(written_kind(kind), text, written_value(kind, empty(kind)), written_value(kind, value)), written_value(kind, value))

    def test_views_nested_ten_deep(self):
        kind, source, view, text = N, 1, View(), "same"
        for number in range(10):
            kind, source = record_of([("a", kind), ("n", N)]), {"a": source, "n": number}
            if number % 2 == 0:
                view, text = Within("a", view), "within a (" + text + ")"
            else:
                look = "less [n] 50"
                view, text = Choose(read_look(look), Within("a", view), Within("a", view)), f"choose ({look}) (within a ({text})) (within a ({text}))"
        self.assertEqual(written_view(view), text)
        read = read_view(text)
        self.assertEqual(written_view(read), text)
        self.assertEqual(read.behind(kind), kind)
        self.assertEqual(read.see(kind, source), source)
        seen = copied(kind, source)
        seen["a"]["n"] = 49
        self.assertEqual(read.put(kind, source, seen), seen)
        seen["a"]["n"] = 51
        self.assertEqual(view.grade(), "firm")
        self.assertEqual(outcome(view, kind, source, seen)[0], "new")
        seen["n"] = 51
        self.assertEqual(outcome(view, kind, source, seen), ("refused", []))

    def test_looks_nested_ten_deep(self):
        look = ("less", ("n",), 5)
        for number in range(9):
            look = [("not", look), ("and", look, ("less", ("n",), 9)), ("or", ("same", ("n",), 7), look)][number % 3]
        kind = rows_of("id", "", [("id", N), ("n", N)])
        self.assertEqual(read_look(written_look(look)), look)
        self.assertIsNone(unsound(look, ("record", kind[3])))
        source = [{"id": number, "n": number} for number in range(12)]
        view = read_view("keep (" + written_look(look) + ")")
        self.assertEqual(view.see(kind, source), [row for row in source if holds(look, row)])
        self.assertEqual(view.put(kind, source, view.see(kind, source)), source)
        self.assertEqual(told_or_refused(view.behind, rows_of("id", "", [("id", N), ("n", W)]))[0], "NoView")

    def test_a_hundred_brackets_asked(self):
        kind = record_of([("a", N), ("b", W)])
        for text, way in (("(" * 100 + "take [a]" + ")" * 100, [0] * 101),
                          ("within a " + "(" * 100 + ")" * 100, [0]),
                          ("choose (less [a] 5) " + "(" * 100 + "take [a]" + ")" * 100 + " (take [a])", [0])):
            view = read_view(text)
            shown = view.see(kind, {"a": 1, "b": "x"})
            self.assertEqual(view.put(kind, {"a": 1, "b": "x"}, shown), {"a": 1, "b": "x"})
            self.assertEqual(outcome(view, kind, {"a": 1, "b": "x"}, None), ("refused", way))
            self.assertEqual(seen_text(written_kind(kind), text, '{a: 1, b: "x"}'), written_value(view.behind(kind), shown))
            self.assertTrue(view.keeps("zz") in (True, False))
            self.assertEqual(rows_back(view, kind, {"a": 1, "b": "x"}, [("set", ("a",), 2)])[0], [("set", ("a",), 2)])
        self.assertEqual(told_or_refused(looked_at, "number", "(" * 100 + "top" + ")" * 100), ("NoView", [[0] * 101]))

    def test_a_text_of_twenty_thousand_signs(self):
        kind = rows_of("id", "", [("id", N), ("w", W)])
        rows = [{"id": number, "w": "x" * 40} for number in range(300)]
        text = written_value(kind, rows)
        text = text + " " * (20000 - len(text))
        self.assertEqual(seen_text(written_kind(kind), "", text), text.strip())
        self.assertEqual(told_or_refused(seen_text, written_kind(kind), "", text[:-1] + "]"), ("NoText", [19999]))
        self.assertEqual(put_text(written_kind(kind), "each (take [id])", text, "[]"), "[]")


class HandedInAgainTest(ViewCase):
    """What the program told is handed in again, as it is or with parts exchanged."""

    def test_a_kind_behind_and_what_is_shown(self):
        for kind, sources in SOURCES:
            for view in VIEWS:
                if not stands(view, kind):
                    continue
                behind, shown = view.behind(kind), view.see(kind, sources[-1])
                self.assertIsNone(misfit(behind, shown))
                nested = Chain([Nest([], "x"), Within("x", View()), Rename("x", "y")]) if behind[0] == "record" else View()
                self.assertIsNone(misfit(nested.behind(behind), nested.see(behind, shown)))
                desk = Desk(behind, shown)
                desk.hang("a", nested)
                for other in picked(changed(behind, shown), 2):
                    told = dict(desk.change(between(behind, desk.source_now(), other)))["a"]
                    self.assertEqual(desk.seen_by("a"), nested.see(behind, other))
                    self.assertIs(told.__class__, list)

    def test_ever_deeper_and_wider(self):
        kind = rows_of("id", "", [("id", N), ("n", N), ("w", W)])
        source = [{"id": number, "n": number % 3, "w": "ab"[number % 2]} for number in range(12)]
        view = Chain([Group("w", "in"), Each(Within("in", Group("n", "deep"))), Each(Within("in", Each(Within("deep", Order()))))])
        behind, shown = view.behind(kind), view.see(kind, source)
        self.assertEqual(read_kind(written_kind(behind)), behind)
        self.assertEqual(read_value(behind, written_value(behind, shown)), shown)
        self.assertEqual(view.put(kind, [], shown), source)
        paper = between(behind, empty(behind), shown)
        self.assertEqual(carried_back(view, kind, [], paper), [("add", (), row) for row in source])
        self.assertEqual(Case("a", view).see(either_of([("a", kind)]), ("a", source)), ("a", shown))


if __name__ == "__main__":
    unittest.main()

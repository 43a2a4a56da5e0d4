"""From text to answer."""

import itertools
import unittest

from viewcase import told_or_refused

from putback.asks import looked_at, put_text, seen_text

KIND = "rows id {id: number, n: number, w: word}"
VIEW = "keep (less [n] 5) then each (take [id, w])"
SOURCE = '[{id: 1, n: 1, w: "a"}, {id: 2, n: 7, w: "b"}]'
SEEN = '[{id: 1, w: "x"}, {id: 4, w: "y"}]'

# Each text with what it is refused with where nothing ahead of it is refused; the first of each is a good one.
KINDS = [
    (KIND, None),
    ("rows id {id: number, n: number, w: word", ("NoText", [39])),
    ("rows id {id: number, n: number, w: word} word", ("NoText", [41])),
    ("", ("NoText", [0])),
    ("  ", ("NoText", [2])),
    ("rows id {n: number, w: word}", ("NoKind", [])),
    ("rows id {id: number, id: number}", ("NoKind", [])),
]
VIEWS = [
    (VIEW, None),
    ("keep (less [n] 5) then each take [id, w]", ("NoText", [28])),
    ("keep (less [n] 5) then", ("NoText", [22])),
    ("!", ("NoText", [0])),
    ("at id", ("NoView", [[0]])),
    ("keep (less [n] 5) then each (take [id, zz])", ("NoView", [[1, "row", 0]])),
    ("keep (and (some [n]) (some [n]))", ("NoView", [[0, "look", 1]])),
    ("each (take [w])", ("NoView", [[0]])),
]
SOURCES = [
    (SOURCE, None),
    ('[{id: 1, n: 1, w: "a"}, {id: 2, n: 7}]', ("NoText", [36])),
    ('[{id: 1, n: 1, w: "a"}', ("NoText", [22])),
    ('{id: 1, n: 1, w: "a"}', ("NoText", [0])),
    (SOURCE + "5", ("NoText", [46])),
    ('[{id: 2, n: 1, w: "a"}, {id: 1, n: 7, w: "b"}]', ("NoFit", [[1]])),
    ('[{id: 1, n: 1, w: "a"}, {id: 2, n: 1, w: "a"}, {id: 2, n: 1, w: "b"}]', ("NoFit", [[2]])),
]
SEENS = [
    (SEEN, None),
    ('[{id: 1, w: "x"}, {id: 4, n: 1, w: "y"}]', ("NoText", [26])),
    ("", ("NoText", [0])),
    (SEEN + " ,", ("NoText", [len(SEEN) + 1])),
    ('[{id: 4, w: "y"}, {id: 1, w: "x"}]', ("CantPut", [[1, 1]])),
    ('[{id: 1, w: "x"}, {id: 2, w: "y"}]', ("CantPut", [[0, 1]])),
]


class GoodTest(unittest.TestCase):
    def test_looked_at(self):
        told = looked_at(KIND, VIEW)
        self.assertIs(told.__class__, tuple)
        self.assertEqual(told, ("rows id {id: number, w: word}", "loose"))
        self.assertEqual(looked_at(kind_text="number", view_text=""), ("number", "full"))
        self.assertEqual(looked_at("{b: word, a: number}", "same"), ("{a: number, b: word}", "full"))
        self.assertEqual(looked_at("{b:word,a:number}", "at  a"), ("number", "firm"))
        self.assertEqual(looked_at("tree word", "unroll [at, deep, knot]"),
                         ("rows at {at: number, deep: number, knot: word}", "full"))
        self.assertEqual(looked_at("either {a: {b: number}, c: word}", "case a (at b)"), ("either {a: number, c: word}", "loose"))

    def test_seen_text(self):
        self.assertEqual(seen_text(KIND, VIEW, SOURCE), '[{id: 1, w: "a"}]')
        self.assertEqual(seen_text(kind_text="number", view_text="", source_text=" 7 "), "7")
        self.assertEqual(seen_text("rows id {n: number, id: number}", "beside n as all with sum", "[{id:1,n:-4},{id:2,n:9}]"),
                         "{all: [{id: 1, n: -4}, {id: 2, n: 9}], sum: 5}")
        self.assertEqual(seen_text("tree number", "unroll [at, deep, knot]", "<1: <2>, <3>>"),
                         "[{at: 0, deep: 0, knot: 1}, {at: 1, deep: 1, knot: 2}, {at: 2, deep: 1, knot: 3}]")
        self.assertEqual(seen_text("either {a: {b: number}, c: word}", "case a (at b)", "a({b: 1})"), "a(1)")
        self.assertEqual(seen_text("either {a: {b: number}, c: word}", "case a (at b)", 'c("b")'), 'c("b")')

    def test_put_text(self):
        self.assertEqual(put_text(KIND, VIEW, SOURCE, SEEN),
                         '[{id: 1, n: 1, w: "x"}, {id: 2, n: 7, w: "b"}, {id: 4, n: 0, w: "y"}]')
        self.assertEqual(put_text(kind_text="number", view_text="", source_text="7", seen_text="-8"), "-8")
        self.assertEqual(put_text("{a: number, b: word}", "at b", '{a: 1, b: "x"}', '"y"'), '{a: 1, b: "y"}')
        self.assertEqual(put_text("tree number", "unroll [at, deep, knot]", "<1>", "[{at: 0, deep: 0, knot: 4}, {at: 1, deep: 1, knot: 5}]"),
                         "<4: <5>>")

    def test_what_is_seen_is_put_back(self):
        for kind, view, source in (
            (KIND, VIEW, SOURCE),
            ("{left: rows id {id: number, w: word}, right: rows w {w: word, x: number}}", "join left with right on w then at left",
             '{left: [{id: 1, w: "p"}, {id: 2, w: "q"}], right: [{w: "p", x: 3}]}'),
            ("tree {a: number, b: word}", "boughs (take [a])", '<{a: 1, b: "x"}: <{a: 2, b: ""}>>'),
            ("{}", "nest [] as c then unnest c", "{}"),
        ):
            self.assertEqual(put_text(kind, view, source, seen_text(kind, view, source)), source)


class RefusedTest(unittest.TestCase):
    """Every text at fault, alone and together with others: the first one's refusal is told."""

    def first_told(self, ask, texts, good):
        refusals = [refusal for text, refusal in texts if refusal is not None]
        told = told_or_refused(ask, *[text for text, refusal in texts])
        self.assertEqual(told, refusals[0] if refusals else ("told", good), texts)

    def test_looked_at(self):
        for texts in itertools.product(KINDS, VIEWS):
            self.first_told(looked_at, texts, looked_at(KIND, VIEW))

    def test_seen_text(self):
        for texts in itertools.product(KINDS, VIEWS, SOURCES):
            self.first_told(seen_text, texts, seen_text(KIND, VIEW, SOURCE))

    def test_put_text(self):
        for texts in itertools.product(KINDS, VIEWS, SOURCES, SEENS):
            self.first_told(put_text, texts, put_text(KIND, VIEW, SOURCE, SEEN))

    def test_seen_values_are_read_for_the_kind_behind(self):
        self.assertEqual(told_or_refused(put_text, "{a: number, b: word}", "at b", '{a: 1, b: "x"}', "7"), ("NoText", [0]))
        self.assertEqual(told_or_refused(put_text, "{a: number, b: word}", "at b", '{a: 1, b: "x"}', '{a: 1, b: "x"}'), ("NoText", [0]))
        self.assertEqual(told_or_refused(put_text, "{a: number, b: word}", "take [b]", '{a: 1, b: "x"}', '{a: 1, b: "x"}'), ("NoText", [1]))

    def test_ways_of_the_put(self):
        rows = "rows id {id: number}"
        self.assertEqual(told_or_refused(put_text, rows, "", "[]", "[{id: 1}, {id: 0}]"), ("CantPut", [[1]]))
        self.assertEqual(told_or_refused(put_text, rows, "same then same", "[]", "[{id: 1}, {id: 0}]"), ("CantPut", [[1, 1]]))
        self.assertEqual(told_or_refused(put_text, rows, "same then (same)", "[]", "[{id: 1}, {id: 0}]"), ("CantPut", [[1, 0, 1]]))
        self.assertEqual(told_or_refused(put_text, rows, "beside id as all with sum then same", "[]", "{all: [{id: 1}], sum: 2}"),
                         ("CantPut", [[0, "sum"]]))
        self.assertEqual(told_or_refused(put_text, "tree number", "unroll [at, deep, knot]", "<1>", "[]"), ("CantPut", [[0]]))
        self.assertEqual(told_or_refused(put_text, "{a: " + rows + "}", "within a (same then keep (less [id] 5))", "{a: []}", "{a: [{id: 5}]}"),
                         ("CantPut", [[0, "a", 1, 0]]))

    def test_no_fit_in_a_view_that_stands(self):
        self.assertEqual(told_or_refused(seen_text, "{a: rows id {id: number}}", "take []", "{a: [{id: 1}, {id: 1}]}"), ("NoFit", [["a", 1]]))
        self.assertEqual(told_or_refused(seen_text, "tree rows id {id: number}", "top", "<[]: <[{id: 2}, {id: 1}]>>"), ("NoFit", [[0, "knot", 1]]))


if __name__ == "__main__":
    unittest.main()

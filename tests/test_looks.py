import copy
import unittest

from putback.kinds import either_of, record_of, rows_of
from putback.looks import holds, unsound

N = ("number",)
W = ("word",)
ROWS = rows_of("id", "", [("id", N)])
TREE = ("tree", W)
SHAPE = either_of([("dot", N), ("line", W)])
INNER = record_of([("n", N), ("rows", ROWS), ("shape", SHAPE), ("tree", TREE), ("w", W)])
OUTER = record_of([("inner", INNER), ("n", N), ("rows", ROWS), ("shape", SHAPE), ("tree", TREE)])

STANDS = ("same", ("n",), 1)
FALLS = ("same", ("strange",), 1)


def some_inner():
    return {"n": 5, "rows": [{"id": 1}], "shape": ("dot", 1), "tree": ("t", [("u", [])]), "w": "bc"}


def some_outer():
    return {"inner": some_inner(), "n": 1, "rows": [], "shape": ("line", "dot"), "tree": ("t", [])}


class UnsoundCase(unittest.TestCase):
    def stands(self, kind, *looks):
        for look in looks:
            self.assertIsNone(unsound(look, kind), look)

    def falls(self, kind, place, *looks):
        for look in looks:
            told = unsound(look, kind)
            self.assertIsInstance(told, list, look)
            self.assertEqual(told, place, look)


class SimpleUnsoundTest(UnsoundCase):
    def test_less_and_same(self):
        for form in ("less", "same"):
            self.stands(N, (form, (), 0), (form, (), -1), (form, (), int("9" * 60)))
            self.stands(W, (form, (), ""), (form, (), "a"))
            self.stands(OUTER, (form, ("n",), 1), (form, ("inner", "n"), 1), (form, ("inner", "w"), "1"))
            for kind in (ROWS, TREE, SHAPE, INNER, record_of([])):
                self.falls(kind, [], (form, (), 1), (form, (), ""))
            for name in ("inner", "rows", "shape", "tree"):
                self.falls(OUTER, [], (form, (name,), 1), (form, (name,), "a"))

    def test_a_thing_of_another_kind(self):
        for form in ("less", "same"):
            self.falls(N, [], (form, (), ""), (form, (), "1"), (form, (), True), (form, (), False))
            self.falls(W, [], (form, (), 0), (form, (), 1), (form, (), True), (form, (), False))
            self.falls(OUTER, [], (form, ("n",), "1"), (form, ("n",), True), (form, ("inner", "w"), 1))

    def test_a_kind_that_is_not_plain_even_with_a_thing_of_it(self):
        for form in ("less", "same"):
            for kind, thing in [(ROWS, []), (TREE, ("", [])), (SHAPE, ("dot", 1)), (record_of([]), {})]:
                self.falls(kind, [], (form, (), thing))

    def test_is(self):
        self.stands(SHAPE, ("is", (), "dot"), ("is", (), "line"))
        self.stands(OUTER, ("is", ("shape",), "dot"), ("is", ("inner", "shape"), "line"))
        self.falls(SHAPE, [], ("is", (), "strange"), ("is", (), ""))
        self.falls(OUTER, [], ("is", ("inner",), "shape"), ("is", ("shape",), "n"), ("is", (), "shape"))
        for kind in (N, W, ROWS, TREE, ("tree", SHAPE), INNER, record_of([("dot", N)]), rows_of("dot", "", [("dot", N)])):
            self.falls(kind, [], ("is", (), "dot"))

    def test_some(self):
        self.stands(ROWS, ("some", ()))
        self.stands(TREE, ("some", ()))
        self.stands(OUTER, ("some", ("rows",)), ("some", ("tree",)), ("some", ("inner", "rows")), ("some", ("inner", "tree")))
        for kind in (N, W, SHAPE, INNER, OUTER, record_of([])):
            self.falls(kind, [], ("some", ()))
        self.falls(OUTER, [], ("some", ("n",)), ("some", ("shape",)), ("some", ("inner",)), ("some", ("inner", "w")))

    def test_paths_that_lead_nowhere(self):
        for path in [("strange",), ("inner", "strange"), ("strange", "n"), ("strange", "strange", "n"), ("n", "n"), ("inner", "n", "n")]:
            self.falls(OUTER, [], ("less", path, 1), ("same", path, 1), ("same", path, ""), ("is", path, "dot"), ("some", path))

    def test_paths_through_what_is_no_record(self):
        self.falls(ROWS, [], ("same", ("id",), 1), ("less", ("id",), 1))
        self.falls(OUTER, [], ("same", ("rows", "id"), 1), ("same", ("shape", "dot"), 1), ("same", ("shape", "line"), "a"))
        self.falls(OUTER, [], ("same", ("tree", "knot"), "a"), ("same", ("inner", "shape", "dot"), 1))
        self.falls(SHAPE, [], ("same", ("dot",), 1))
        self.falls(TREE, [], ("same", ("knot",), "a"))
        self.falls(("tree", record_of([("n", N)])), [], ("same", ("n",), 1))
        self.falls(either_of([("a", record_of([("n", N)]))]), [], ("same", ("a", "n"), 1))


class NestedUnsoundTest(UnsoundCase):
    def test_where_all_parts_stand(self):
        self.stands(OUTER, ("not", STANDS), ("and", STANDS, STANDS), ("or", STANDS, STANDS))
        self.stands(OUTER, ("not", ("and", ("or", STANDS, ("some", ("rows",))), ("not", ("is", ("shape",), "dot")))))

    def test_not(self):
        self.falls(OUTER, [1], ("not", FALLS))
        self.falls(OUTER, [1, 1, 1], ("not", ("not", ("not", FALLS))))

    def test_and_and_or(self):
        for form in ("and", "or"):
            self.falls(OUTER, [1], (form, FALLS, STANDS), (form, FALLS, FALLS))
            self.falls(OUTER, [2], (form, STANDS, FALLS))
            self.falls(OUTER, [1, 2], (form, (form, STANDS, FALLS), FALLS))
            self.falls(OUTER, [2, 1], (form, STANDS, (form, FALLS, FALLS)))

    def test_several_deep(self):
        self.falls(OUTER, [2, 1, 2], ("and", ("not", STANDS), ("or", ("and", STANDS, FALLS), FALLS)))
        self.falls(OUTER, [1, 2, 1], ("not", ("or", STANDS, ("not", FALLS))))
        deep = FALLS
        for turn in range(9):
            deep = ("or", STANDS, deep)
        self.falls(OUTER, [2] * 9, deep)


class HoldsCase(unittest.TestCase):
    def yes(self, value, *looks):
        for look in looks:
            self.assertIs(holds(look, value), True, look)

    def no(self, value, *looks):
        for look in looks:
            self.assertIs(holds(look, value), False, look)


class HoldsTest(HoldsCase):
    def test_less_of_numbers(self):
        self.yes(5, ("less", (), 6), ("less", (), int("9" * 60)), ("less", (), 10))
        self.no(5, ("less", (), 5), ("less", (), 4), ("less", (), -10), ("less", (), 0))
        self.yes(-2, ("less", (), -1), ("less", (), 0))
        self.no(-2, ("less", (), -3))

    def test_less_of_words(self):
        self.yes("b", ("less", (), "c"), ("less", (), "ba"), ("less", (), "~"), ("less", (), "b "))
        self.no("b", ("less", (), "b"), ("less", (), "a"), ("less", (), ""), ("less", (), "B"), ("less", (), "az"), ("less", (), "9"))
        self.yes("", ("less", (), " "), ("less", (), "a"))
        self.no("", ("less", (), ""))
        self.yes("Z", ("less", (), "a"))
        self.yes("10", ("less", (), "9"))
        self.no("ba", ("less", (), "b"))

    def test_same(self):
        self.yes(5, ("same", (), 5))
        self.no(5, ("same", (), 6), ("same", (), -5))
        self.yes("", ("same", (), ""))
        self.no("", ("same", (), " "))
        self.no("ab", ("same", (), "a"), ("same", (), "abc"), ("same", (), "AB"))

    def test_is(self):
        self.yes(("dot", 1), ("is", (), "dot"))
        self.no(("dot", 1), ("is", (), "line"))
        self.no(("line", "dot"), ("is", (), "dot"))

    def test_some(self):
        self.no([], ("some", ()))
        self.yes([{"id": 1}], ("some", ()))
        self.yes([{"id": 1}, {"id": 2}], ("some", ()))
        self.no(("t", []), ("some", ()))
        self.yes(("t", [("u", [])]), ("some", ()))
        self.yes(("", [("", [])]), ("some", ()))
        self.no(([1], []), ("some", ()))

    def test_paths(self):
        value = some_outer()
        self.yes(value, ("same", ("n",), 1), ("same", ("inner", "n"), 5), ("less", ("inner", "w"), "c"))
        self.no(value, ("same", ("n",), 5), ("same", ("inner", "n"), 1), ("less", ("inner", "w"), "b"))
        self.yes(value, ("is", ("shape",), "line"), ("is", ("inner", "shape"), "dot"))
        self.no(value, ("is", ("shape",), "dot"), ("is", ("inner", "shape"), "line"))
        self.yes(value, ("some", ("inner", "rows")), ("some", ("inner", "tree")))
        self.no(value, ("some", ("rows",)), ("some", ("tree",)))

    def test_not_and_or(self):
        yes = ("same", (), 1)
        no = ("less", (), 0)
        self.yes(1, yes, ("not", no), ("not", ("not", yes)))
        self.no(1, no, ("not", yes), ("not", ("not", no)))
        self.yes(1, ("and", yes, yes), ("or", yes, yes), ("or", yes, no), ("or", no, yes))
        self.no(1, ("and", yes, no), ("and", no, yes), ("and", no, no), ("or", no, no))
        self.yes(1, ("not", ("and", yes, ("or", no, ("not", yes)))))

    def test_nothing_is_changed(self):
        value = some_outer()
        look = ("and", ("some", ("inner", "rows")), ("or", ("is", ("shape",), "dot"), ("not", ("some", ("tree",)))))
        then = copy.deepcopy(look)
        self.assertIsNone(unsound(look, OUTER))
        self.yes(value, look)
        self.assertEqual(value, some_outer())
        self.assertEqual(look, then)


if __name__ == "__main__":
    unittest.main()

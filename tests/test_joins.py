import itertools
import unittest

from viewcase import N, W, ViewCase, outcome

from putback.fields import Take
from putback.joins import Join
from putback.kinds import either_of, record_of, rows_of
from putback.tables import Each
from putback.views import Chain, View

BOOKS = rows_of("id", "", [("by", W), ("id", N), ("title", W)])
WRITERS = rows_of("name", "", [("born", N), ("name", W)])
SHELF = record_of([("books", BOOKS), ("place", W), ("writers", WRITERS)])
JOINED = rows_of("id", "", [("born", N), ("by", W), ("id", N), ("title", W)])
SHOWN = record_of([("books", JOINED), ("place", W)])
VIEW = Join("books", "writers", "by")


def book(key, by="ann", title="t"):
    return {"id": key, "by": by, "title": title}


def writer(name, born=1900):
    return {"name": name, "born": born}


def joined(key, by="ann", born=1900, title="t"):
    return {"id": key, "by": by, "title": title, "born": born}


def shelf(books, writers, place="here"):
    return {"books": books, "writers": writers, "place": place}


def shown(rows, place="here"):
    return {"books": rows, "place": place}


def pair_of(left, right):
    return record_of([("left", left), ("right", right)])


LINKED = pair_of(rows_of("a", "", [("a", N), ("k", N)]), rows_of("id", "", [("id", N), ("x", W)]))


class JoinKindTest(ViewCase):
    def test_made(self):
        self.assertIsInstance(VIEW, View)
        self.assertEqual((VIEW.left, VIEW.right, VIEW.link), ("books", "writers", "by"))

    def test_behind(self):
        self.stands(VIEW, SHELF, SHOWN)
        alone = record_of([("books", BOOKS), ("writers", WRITERS)])
        self.stands(VIEW, alone, ("record", (("books", JOINED),)))
        fields = (("a", N), ("k", N), ("x", W))
        self.stands(Join("left", "right", "k"), LINKED, ("record", (("left", ("rows", "a", "", fields)),)))

    def test_the_left_key_and_order(self):
        left = rows_of("id", "title", [("by", W), ("id", N), ("title", W)])
        right = rows_of("name", "born", [("born", N), ("name", W)])
        kind = record_of([("books", left), ("writers", right)])
        fields = (("born", N), ("by", W), ("id", N), ("title", W))
        self.stands(VIEW, kind, ("record", (("books", ("rows", "id", "title", fields)),)))

    def test_the_right_key_may_be_called_like_a_left_field(self):
        left = rows_of("id", "", [("id", N), ("k", N)])
        right = rows_of("id", "", [("id", N), ("x", W)])
        behind = record_of([("left", rows_of("id", "", [("id", N), ("k", N), ("x", W)]))])
        self.stands(Join("left", "right", "k"), pair_of(left, right), behind)
        self.stands(Join("left", "right", "id"), pair_of(left, right), behind)

    def test_right_rows_with_a_key_alone(self):
        left = rows_of("id", "", [("id", N), ("k", N)])
        kind = pair_of(left, rows_of("x", "", [("x", N)]))
        self.stands(Join("left", "right", "k"), kind, record_of([("left", left)]))

    def test_where_it_does_not_stand(self):
        self.no_view_but(Join("id", "name", "id"), [], [])
        self.no_view(VIEW, record_of([("books", BOOKS), ("place", W)]), [])
        self.no_view(VIEW, record_of([("writers", WRITERS), ("place", W)]), [])
        self.no_view(Join("books", "books", "id"), SHELF, [])
        self.no_view(Join("writers", "writers", "name"), SHELF, [])
        keys = rows_of("k", "", [("k", N)])
        self.no_view(Join("left", "left", "k"), pair_of(keys, keys), [])
        self.stands(Join("left", "right", "k"), pair_of(keys, keys), record_of([("left", keys)]))
        self.no_view(Join("books", "place", "by"), SHELF, [])
        self.no_view(Join("place", "writers", "by"), SHELF, [])
        for kind in (N, W, record_of(BOOKS[3]), ("tree", BOOKS), either_of(BOOKS[3])):
            self.no_view(Join("left", "right", "id"), pair_of(kind, LINKED[1][1][1]), [])
            self.no_view(Join("left", "right", "k"), pair_of(LINKED[1][0][1], kind), [])

    def test_the_link(self):
        self.no_view(Join("books", "writers", "none"), SHELF, [])
        self.no_view(Join("books", "writers", "id"), SHELF, [])
        self.no_view(Join("books", "writers", "born"), SHELF, [])
        self.no_view(Join("left", "right", "x"), LINKED, [])
        self.stands(Join("books", "writers", "title"), SHELF, SHOWN)

    def test_names_on_both_sides(self):
        left = rows_of("id", "", [("id", N), ("k", N), ("x", N)])
        for fields in ([("id", N), ("x", W)], [("id", N), ("k", N)], [("key", N), ("id", N)], [("a", N), ("id", N), ("x", N)]):
            self.no_view(Join("left", "right", "k"), pair_of(left, rows_of(fields[0][0], "", fields)), [])

    def test_grade_and_keeps(self):
        self.assertEqual(VIEW.grade(), "loose")
        self.keeps_just(VIEW, ["place", "by", "id", "name", "else"], ["books", "writers"])


class JoinSeeTest(ViewCase):
    def test_no_rows(self):
        self.shows(VIEW, SHELF, shelf([], []), shown([]))
        self.shows(VIEW, SHELF, shelf([], [writer("ann")]), shown([]))
        self.shows(VIEW, SHELF, shelf([book(1)], []), shown([]))

    def test_one_row(self):
        self.shows(VIEW, SHELF, shelf([book(1)], [writer("ann", 1950)], "there"), shown([joined(1, "ann", 1950)], "there"))

    def test_several_rows_with_one_link_and_hidden_ones(self):
        source = shelf([book(1), book(2, "bob"), book(3, "cy"), book(4)], [writer("ann", 7), writer("cy", 8), writer("di", 9)])
        self.shows(VIEW, SHELF, source, shown([joined(1, "ann", 7), joined(3, "cy", 8), joined(4, "ann", 7)]))

    def test_in_the_left_rows_order(self):
        left = rows_of("id", "title", [("by", W), ("id", N), ("title", W)])
        kind = record_of([("books", left), ("place", W), ("writers", WRITERS)])
        source = shelf([book(5, "cy", "a"), book(2, "ann", "b"), book(1, "bob", "c")], [writer("ann", 7), writer("cy", 8)])
        self.shows(VIEW, kind, source, shown([joined(5, "cy", 8, "a"), joined(2, "ann", 7, "b")]))

    def test_the_link_may_be_the_key(self):
        kind = pair_of(rows_of("id", "", [("id", N), ("y", W)]), rows_of("id", "", [("id", N), ("x", W)]))
        source = {"left": [{"id": 1, "y": "a"}, {"id": 2, "y": "b"}], "right": [{"id": 2, "x": "c"}, {"id": 3, "x": "d"}]}
        view = Join("left", "right", "id")
        self.shows(view, kind, source, {"left": [{"id": 2, "y": "b", "x": "c"}]})
        self.puts(view, kind, source, {"left": [{"id": 0, "y": "e", "x": "f"}, {"id": 3, "y": "g", "x": "h"}]}, {
            "left": [{"id": 0, "y": "e"}, {"id": 1, "y": "a"}, {"id": 3, "y": "g"}],
            "right": [{"id": 0, "x": "f"}, {"id": 2, "x": "c"}, {"id": 3, "x": "h"}],
        })

    def test_right_rows_with_a_key_alone(self):
        left = rows_of("id", "", [("id", N), ("k", N)])
        kind = pair_of(left, rows_of("x", "", [("x", N)]))
        source = {"left": [{"id": 1, "k": 5}, {"id": 2, "k": 6}], "right": [{"x": 4}, {"x": 6}]}
        view = Join("left", "right", "k")
        self.shows(view, kind, source, {"left": [{"id": 2, "k": 6}]})
        self.puts(view, kind, source, {"left": [{"id": 2, "k": 9}, {"id": 3, "k": 9}]}, {
            "left": [{"id": 1, "k": 5}, {"id": 2, "k": 9}, {"id": 3, "k": 9}], "right": [{"x": 4}, {"x": 6}, {"x": 9}],
        })

    def test_rows_with_one_link_share_nothing(self):
        tags = rows_of("tag", "", [("tag", W)])
        kind = pair_of(rows_of("id", "", [("id", N), ("k", N)]), rows_of("n", "", [("n", N), ("tags", tags)]))
        source = {"left": [{"id": 1, "k": 5}, {"id": 2, "k": 5}], "right": [{"n": 5, "tags": [{"tag": "a"}]}]}
        view = Join("left", "right", "k")
        seen = view.see(kind, source)
        seen["left"][0]["tags"].append({"tag": "b"})
        self.assertEqual(seen["left"][1]["tags"], [{"tag": "a"}])
        self.refuses(view, kind, source, seen, ["left", 1])


class JoinPutTest(ViewCase):
    def test_left_rows_and_hidden_ones_in_order(self):
        source = shelf([book(1), book(2, "bob"), book(4)], [writer("ann")])
        self.puts(VIEW, SHELF, source, shown([]), shelf([book(2, "bob")], [writer("ann")]))
        self.puts(VIEW, SHELF, source, shown([joined(1, title="new"), joined(3)]),
                  shelf([book(1, title="new"), book(2, "bob"), book(3)], [writer("ann")]))

    def test_the_left_rows_own_order(self):
        left = rows_of("id", "title", [("by", W), ("id", N), ("title", W)])
        kind = record_of([("books", left), ("place", W), ("writers", WRITERS)])
        source = shelf([book(5, "cy", "a"), book(2, "ann", "b"), book(1, "bob", "c")], [writer("ann", 7), writer("cy", 8)])
        self.puts(VIEW, kind, source, shown([joined(7, "ann", 7, "b"), joined(0, "ann", 7, "d"), joined(6, "di", 1, "d")]),
                  shelf([book(7, "ann", "b"), book(1, "bob", "c"), book(0, "ann", "d"), book(6, "di", "d")],
                        [writer("ann", 7), writer("cy", 8), writer("di", 1)]))

    def test_right_rows_change_come_and_stay(self):
        source = shelf([book(1), book(2, "cy")], [writer("ann", 1), writer("cy", 2), writer("di", 3)])
        self.puts(VIEW, SHELF, source, shown([joined(1, "ann", 9)]),
                  shelf([book(1)], [writer("ann", 9), writer("cy", 2), writer("di", 3)]))
        self.puts(VIEW, SHELF, source, shown([joined(1, "bob", 9), joined(2, "di", 8)]),
                  shelf([book(1, "bob"), book(2, "di")], [writer("ann", 1), writer("bob", 9), writer("cy", 2), writer("di", 8)]))

    def test_the_right_rows_own_order(self):
        right = rows_of("name", "born", [("born", N), ("name", W)])
        kind = record_of([("books", BOOKS), ("place", W), ("writers", right)])
        source = shelf([book(1), book(2, "cy")], [writer("cy", 2), writer("ann", 3)])
        self.puts(VIEW, kind, source, shown([joined(1, "ann", 1), joined(2, "bob", 2)]),
                  shelf([book(1), book(2, "bob")], [writer("ann", 1), writer("bob", 2), writer("cy", 2)]))

    def test_several_rows_with_one_link(self):
        source = shelf([book(1), book(2)], [writer("ann", 1)])
        self.puts(VIEW, SHELF, source, shown([joined(1, "ann", 5), joined(2, "ann", 5), joined(3, "ann", 5)]),
                  shelf([book(1), book(2), book(3)], [writer("ann", 5)]))

    def test_other_fields_come_from_the_seen_record(self):
        self.puts(VIEW, SHELF, shelf([book(1)], [writer("ann")]), shown([joined(1)], "there"),
                  shelf([book(1)], [writer("ann")], "there"))

    def test_a_hidden_rows_key(self):
        source = shelf([book(1), book(2, "bob"), book(3, "bob")], [writer("ann")])
        self.refuses(VIEW, SHELF, source, shown([joined(1), joined(2)]), ["books", 1])
        self.refuses(VIEW, SHELF, source, shown([joined(2), joined(3)]), ["books", 0])
        self.refuses(VIEW, SHELF, source, shown([joined(0), joined(1), joined(3)]), ["books", 2])

    def test_a_hidden_rows_link(self):
        source = shelf([book(1), book(2, "bob")], [writer("ann")])
        self.refuses(VIEW, SHELF, source, shown([joined(1), joined(3, "bob")]), ["books", 1])
        self.refuses(VIEW, SHELF, source, shown([joined(0, "bob"), joined(3, "bob")]), ["books", 0])

    def test_one_link_with_other_right_fields(self):
        source = shelf([book(1)], [writer("ann", 1)])
        self.refuses(VIEW, SHELF, source, shown([joined(1, "ann", 1), joined(2, "ann", 2)]), ["books", 1])
        self.refuses(VIEW, SHELF, source, shown([joined(1, "ann", 2), joined(2, "ann", 1)]), ["books", 1])
        self.refuses(VIEW, SHELF, source, shown([joined(1, "di", 2), joined(2, "ann", 1), joined(3, "di", 3)]), ["books", 2])
        self.refuses(VIEW, SHELF, source,
                     shown([joined(1, "di", 2), joined(2, "di", 2), joined(3, "di", 3), joined(4, "di", 2)]), ["books", 2])

    def test_the_first_of_the_three(self):
        source = shelf([book(1), book(5, "bob")], [writer("ann", 1)])
        self.refuses(VIEW, SHELF, source, shown([joined(1, "ann", 1), joined(2, "bob"), joined(5)]), ["books", 1])
        self.refuses(VIEW, SHELF, source, shown([joined(1, "ann", 1), joined(2, "ann", 2), joined(5)]), ["books", 1])
        self.refuses(VIEW, SHELF, source, shown([joined(1, "ann", 1), joined(5, "ann", 1), joined(6, "ann", 2)]), ["books", 1])
        self.refuses(Join("left", "right", "k"), LINKED, {"left": [{"a": 1, "k": 1}], "right": []},
                     {"left": [{"a": 1, "k": 2, "x": ""}]}, ["left", 0])

    def test_what_does_not_fit_goes_ahead(self):
        source = shelf([book(1), book(2, "bob")], [writer("ann")])
        self.refuses(VIEW, SHELF, source, shown([joined(2), joined(3, 3)]), ["books", 1, "by"])
        self.refuses(VIEW, SHELF, source, shown([joined(2), joined(3, "bob", "1")]), ["books", 1, "born"])
        self.refuses(VIEW, SHELF, source, shown([joined(2)], 0), ["place"])
        self.refuses(VIEW, SHELF, source, shown([joined(2), joined(1)]), ["books", 1])
        self.refuses(VIEW, SHELF, source, shown([joined(2), book(3)]), ["books", 1])
        self.refuses(VIEW, SHELF, source, source, [])
        self.refuses_what_does_not_fit(VIEW, SHELF, shelf([book(1), book(2, "bob"), book(3)], [writer("ann")]))

    def test_within_chains_and_rows(self):
        chain = Chain([VIEW, Take(["books"])])
        source = shelf([book(1), book(2, "bob")], [writer("ann")])
        self.shows(chain, SHELF, source, {"books": [joined(1)]})
        self.puts(chain, SHELF, source, {"books": [joined(3, "di", 4)]},
                  shelf([book(2, "bob"), book(3, "di")], [writer("ann"), writer("di", 4)]))
        self.refuses(chain, SHELF, source, {"books": [joined(2)]}, [0, "books", 0])
        self.refuses(chain, SHELF, source, {"books": [joined(2, 2)]}, [1, "books", 0, "by"])
        many = rows_of("place", "", SHELF[1])
        self.stands(Each(VIEW), many, rows_of("place", "", SHOWN[1]))
        self.shows(Each(VIEW), many, [source], [shown([joined(1)])])
        self.refuses(Each(VIEW), many, [source], [shown([joined(2)])], [0, "books", 0])
        self.puts(Each(VIEW), many, [source], [shown([joined(2)], "at")], [shelf([book(2)], [writer("ann")], "at")])


def some_shelves():
    told = []
    for picks in itertools.product((None, "ann", "bob"), repeat=2):
        books = [book(key, by) for key, by in enumerate(picks) if by is not None]
        for ann, bob in itertools.product((None, 1, 2), repeat=2):
            told.append(shelf(books, [writer(name, born) for name, born in (("ann", ann), ("bob", bob)) if born]))
    return told


def some_shown():
    parts = [None, ("ann", 1), ("ann", 2), ("bob", 1)]
    told = []
    for picks in itertools.product(parts, repeat=3):
        told.append(shown([joined(key, *part) for key, part in enumerate(picks) if part is not None]))
    return told


class JoinTwiceTest(ViewCase):
    def test_laws(self):
        self.lawful(VIEW, SHELF, some_shelves()[::3], some_shown()[::3] + [None, shown([joined(1, 1)])])

    def test_put_twice(self):
        def promised(source, first, second):
            if outcome(VIEW, SHELF, source, second)[0] == "refused":
                return True
            left_out = {row["by"] for row in first["books"]} - {row["by"] for row in second["books"]}
            told = {row["by"]: row["born"] for row in first["books"]}
            return all(writer(value, told[value]) in source["writers"] for value in left_out)

        seens = some_shown()[::3] + [shown([], "there"), shown([joined(1, 1)])]
        counts = self.asked_twice(VIEW, SHELF, some_shelves()[::5], seens, promised)
        self.assertEqual(counts[True], 0)
        self.assertGreater(counts[False], 0)

    def test_a_second_put_is_refused_just_where_it_would_be(self):
        for source in some_shelves()[::5]:
            for first in some_shown()[::5]:
                told, new = outcome(VIEW, SHELF, source, first)
                if told == "new":
                    self.same_refusals(source, new)

    def same_refusals(self, source, new):
        for second in some_shown()[::2]:
            told, way = outcome(VIEW, SHELF, source, second)
            if told == "refused":
                self.assertEqual(outcome(VIEW, SHELF, new, second), (told, way))
            else:
                self.assertEqual(outcome(VIEW, SHELF, new, second)[0], "new")


if __name__ == "__main__":
    unittest.main()

import copy
import itertools
import unittest

from viewcase import N, ROWS, W, Shift, ViewCase, outcome

from putback.fields import At, Nest, Rename, Take, Within
from putback.kinds import either_of, record_of, rows_of
from putback.tables import Keep
from putback.trees import Boughs, Top, Unroll
from putback.views import Chain, View

NUMBERS = ("tree", N)
POINT = record_of([("x", N), ("y", W)])
POINTS = ("tree", POINT)
DEEP = 59


def point(x, y="y"):
    return {"x": x, "y": y}


def bare(tree):
    """A tree of points from one of numbers, for short."""
    return (point(tree[0]), [bare(arm) for arm in tree[1]])


def line(length):
    """A tree of one arm after the other."""
    tree = (length, [])
    for value in range(length - 1, -1, -1):
        tree = (value, [tree])
    return tree


TREE = (1, [(2, [(3, []), (4, [(5, [])])]), (6, []), (7, [(8, [])])])
TREES = [
    (0, []), (1, []), (0, [(1, [])]), (2, [(0, []), (1, [])]), (0, [(1, [(2, [])])]), (1, [(0, [(2, []), (1, [])]), (2, [])]),
]


class TopTest(ViewCase):
    def test_made(self):
        self.assertIsInstance(Top(), View)

    def test_behind(self):
        self.stands(Top(), NUMBERS, N)
        self.stands(Top(), POINTS, POINT)
        self.stands(Top(), ("tree", ROWS), ROWS)
        self.stands(Top(), ("tree", NUMBERS), NUMBERS)

    def test_where_it_does_not_stand(self):
        self.no_view_but(Top(), ["tree"], [])
        self.no_view(Top(), record_of([("knot", NUMBERS)]), [])

    def test_see(self):
        self.shows(Top(), NUMBERS, (1, []), 1)
        self.shows(Top(), NUMBERS, TREE, 1)
        self.shows(Top(), POINTS, bare(TREE), point(1))
        self.shows(Top(), ("tree", NUMBERS), (TREE, [((0, []), [])]), TREE)

    def test_put_and_the_arms_stay(self):
        self.puts(Top(), NUMBERS, (1, []), 5, (5, []))
        self.puts(Top(), NUMBERS, TREE, 9, (9, TREE[1]))
        self.puts(Top(), POINTS, bare(TREE), point(9, ""), (point(9, ""), bare(TREE)[1]))
        self.puts(Chain([Top(), At("x")]), POINTS, bare(TREE), 9, (point(9), bare(TREE)[1]))

    def test_refusals(self):
        self.refuses(Top(), NUMBERS, TREE, TREE, [])
        self.refuses(Top(), NUMBERS, TREE, True, [])
        self.refuses(Top(), POINTS, bare(TREE), {"x": "", "y": ""}, ["x"])
        self.refuses_what_does_not_fit(Top(), POINTS, bare(TREE))
        self.refuses_what_does_not_fit(Top(), ("tree", NUMBERS), (TREE, []))

    def test_grade_and_keeps(self):
        self.assertEqual(Top().grade(), "firm")
        self.keeps_just(Top(), [], ["knot", "x", "y"])

    def test_laws(self):
        self.lawful(Top(), NUMBERS, TREES, [0, 1, 5, None, "a", TREE])
        self.lawful(Top(), POINTS, [bare(tree) for tree in TREES], [point(0), point(3, "z"), point("")])


class Remembering(View):
    """Keeps by itself what values it was put on."""

    def __init__(self):
        self.sources = []

    def put(self, kind, source, seen):
        self.sources.append((kind, copy.deepcopy(source), seen))
        return seen


class BoughsTest(ViewCase):
    def test_made(self):
        inner = Take(["x"])
        view = Boughs(inner)
        self.assertIsInstance(view, View)
        self.assertIs(view.inner, inner)

    def test_behind(self):
        self.stands(Boughs(View()), NUMBERS, NUMBERS)
        self.stands(Boughs(At("y")), POINTS, ("tree", W))
        self.stands(Boughs(Take(["x"])), POINTS, ("tree", record_of([("x", N)])))
        self.stands(Boughs(Boughs(Shift(1))), ("tree", NUMBERS), ("tree", NUMBERS))
        self.stands(Boughs(Chain([Top(), At("x")])), ("tree", POINTS), NUMBERS)

    def test_where_it_does_not_stand(self):
        self.no_view_but(Boughs(View()), ["tree"], [])
        self.no_view(Boughs(Take(["z"])), POINT, [])
        self.no_view(Boughs(Take(["z"])), POINTS, ["knot"])
        self.no_view(Boughs(Shift(1)), POINTS, ["knot", "shift"])
        self.no_view(Boughs(Chain([View(), At("z")])), POINTS, ["knot", 1])
        self.no_view(Boughs(Boughs(Shift(1))), ("tree", POINTS), ["knot", "knot", "shift"])
        self.no_view(Boughs(Boughs(Shift(1))), POINTS, ["knot"])
        self.no_view(Boughs(Within("y", Shift(1))), POINTS, ["knot", "y", "shift"])

    def test_see(self):
        self.shows(Boughs(Shift(10)), NUMBERS, (1, []), (11, []))
        self.shows(Boughs(Shift(10)), NUMBERS, (1, [(2, [(4, [])]), (3, [])]), (11, [(12, [(14, [])]), (13, [])]))
        self.shows(Boughs(At("x")), POINTS, bare(TREE), TREE)
        self.shows(Boughs(View()), NUMBERS, TREE, TREE)

    def test_put_on_the_knot_at_the_same_place(self):
        source = (point(1, "a"), [(point(2, "b"), [(point(3, "c"), [])]), (point(4, "d"), [])])
        self.puts(Boughs(At("x")), POINTS, source, (11, [(12, [(13, [])]), (14, [])]),
                  (point(11, "a"), [(point(12, "b"), [(point(13, "c"), [])]), (point(14, "d"), [])]))

    def test_knots_fewer_than_the_source_has(self):
        source = (point(1, "a"), [(point(2, "b"), [(point(3, "c"), [])]), (point(4, "d"), [])])
        self.puts(Boughs(At("x")), POINTS, source, (9, []), (point(9, "a"), []))
        self.puts(Boughs(At("x")), POINTS, source, (1, [(4, [])]), (point(1, "a"), [(point(4, "b"), [])]))

    def test_knots_more_than_the_source_has(self):
        source = (point(1, "a"), [(point(2, "b"), [])])
        self.puts(Boughs(At("x")), POINTS, source, (1, [(2, [(5, [(6, [])])]), (3, [(7, []), (8, [])])]),
                  (point(1, "a"), [(point(2, "b"), [(point(5, ""), [(point(6, ""), [])])]),
                                   (point(3, ""), [(point(7, ""), []), (point(8, ""), [])])]))
        kind = ("tree", either_of([("one", W), ("two", N)]))
        inner = Remembering()
        Boughs(inner).put(kind, (("two", 1), []), (("two", 2), [(("two", 3), [])]))
        self.assertEqual(inner.sources, [(kind[1], ("two", 1), ("two", 2)), (kind[1], ("one", ""), ("two", 3))])

    def test_new_knots_share_nothing(self):
        kind = ("tree", record_of([("r", ROWS), ("x", N)]))
        view = Boughs(At("x"))
        new = view.put(kind, ({"r": [], "x": 1}, []), (1, [(2, []), (3, [])]))
        new[1][0][0]["r"].append({"id": 1, "name": "a"})
        self.assertEqual(new[1][1][0]["r"], [])

    def test_a_knot_ahead_of_its_arms_and_the_arms_in_order(self):
        inner = Remembering()
        Boughs(inner).put(NUMBERS, TREE, TREE)
        self.assertEqual([seen for kind, source, seen in inner.sources], [1, 2, 3, 4, 5, 6, 7, 8])
        self.assertEqual([source for kind, source, seen in inner.sources], [1, 2, 3, 4, 5, 6, 7, 8])

    def test_the_first_knot_whose_inner_put_refuses(self):
        view = Boughs(Shift(0, 10))
        self.refuses(view, NUMBERS, TREE, (11, [(12, [])]), ["knot", "limit"])
        self.refuses(view, NUMBERS, TREE, (1, [(12, [])]), [0, "knot", "limit"])
        self.refuses(view, NUMBERS, TREE, (1, [(2, [(3, []), (4, [(5, []), (50, [])])]), (60, [])]), [0, 1, 1, "knot", "limit"])
        self.refuses(view, NUMBERS, TREE, (1, [(2, []), (3, []), (4, []), (12, [(13, [])])]), [3, "knot", "limit"])
        self.refuses(view, NUMBERS, TREE, (1, [(2, [(12, [])]), (13, [])]), [0, 0, "knot", "limit"])
        self.refuses(view, NUMBERS, TREE, (1, [(13, [(12, [])])]), [0, "knot", "limit"])
        chained = Boughs(Chain([View(), Within("x", Shift(0, 10))]))
        self.refuses(chained, POINTS, bare(TREE), bare((1, [(2, []), (11, [])])), [1, "knot", 1, "x", "limit"])
        twice = Boughs(Boughs(Shift(0, 10)))
        self.refuses(twice, ("tree", NUMBERS), (TREE, []), ((1, []), [((2, [(3, []), (11, [])]), [])]),
                     [0, "knot", 1, "knot", "limit"])

    def test_what_does_not_fit_goes_ahead(self):
        view = Boughs(Shift(0, 10))
        self.refuses(view, NUMBERS, TREE, (11, [("a", [])]), [0, "knot"])
        self.refuses(view, NUMBERS, TREE, (11, [(1, []), (1, [None])]), [1, 0])
        self.refuses(view, NUMBERS, TREE, 11, [])
        self.refuses(view, NUMBERS, TREE, (11, ()), [])
        self.refuses_what_does_not_fit(Boughs(Take(["y"])), POINTS, bare((1, [(2, [(3, [])])])))
        self.refuses_what_does_not_fit(Boughs(Chain([Take(["y"]), Rename("y", "z")])), POINTS, bare((1, [(2, [])])))

    def test_grade_and_keeps(self):
        for grade, told in (("full", "full"), ("firm", "loose"), ("loose", "loose")):
            self.assertEqual(Boughs(Shift(1, worth=grade)).grade(), told)
            self.assertEqual(Boughs(Chain([View(), Within("a", Shift(1, worth=grade))])).grade(), told)
        self.assertEqual(Boughs(View()).grade(), "full")
        self.assertEqual(Boughs(At("x")).grade(), "loose")
        self.keeps_just(Boughs(View()), [], ["x", "y", "knot"])

    def test_laws(self):
        for inner in (View(), Shift(5, 9), Chain([])):
            self.lawful(Boughs(inner), NUMBERS, TREES, TREES + [(9, [(10, [])]), (9, [(9, [])]), None, ("a", [])])
        points = [bare(tree) for tree in TREES]
        self.lawful(Boughs(Nest(["x"], "z")), POINTS, points, [({"y": "", "z": {"x": 1}}, [])])
        self.lawful(Boughs(At("x")), POINTS, points, TREES)

    def test_put_twice_with_a_firm_inner_view(self):
        def places(tree, ahead=()):
            told = {ahead}
            for number, arm in enumerate(tree[1]):
                told |= places(arm, ahead + (number,))
            return told

        def promised(source, first, second):
            return places(source) & places(second) <= places(first)

        points = [bare(tree) for tree in TREES]
        counts = self.asked_twice(Boughs(At("x")), POINTS, points, TREES, promised)
        self.assertGreater(counts[False], 0)

    def test_sixty_knots_deep_and_wide(self):
        deep = line(DEEP)
        self.shows(Boughs(At("x")), POINTS, bare(deep), deep)
        self.puts(Boughs(At("x")), POINTS, bare(deep), (0, []), (point(0), []))
        self.puts(Boughs(At("x")), POINTS, (point(3), []), line(2), (point(0), [(point(1, ""), [(point(2, ""), [])])]))
        bad = line(DEEP - 1)
        self.refuses(Boughs(Shift(0, DEEP - 2)), NUMBERS, (0, []), bad, [0] * (DEEP - 1) + ["knot", "limit"])
        wide = (0, [(number, []) for number in range(DEEP)])
        self.shows(Boughs(At("x")), POINTS, bare(wide), wide)


def row(at, deep, knot):
    return {"at": at, "deep": deep, "knot": knot}


def rows(*pairs):
    return [row(at, deep, knot) for at, (deep, knot) in enumerate(pairs)]


class UnrollTest(ViewCase):
    view = Unroll("at", "deep", "knot")

    def test_made(self):
        view = Unroll("a", "b", "c")
        self.assertIsInstance(view, View)
        self.assertEqual((view.at, view.deep, view.knot), ("a", "b", "c"))

    def test_behind_in_the_order_of_names(self):
        self.stands(self.view, NUMBERS, ("rows", "at", "", (("at", N), ("deep", N), ("knot", N))))
        self.stands(self.view, POINTS, rows_of("at", "", [("at", N), ("deep", N), ("knot", POINT)]))
        self.stands(Unroll("z", "y", "x"), ("tree", W), ("rows", "z", "", (("x", W), ("y", N), ("z", N))))

    def test_where_it_does_not_stand(self):
        self.no_view_but(self.view, ["tree"], [])
        for names in (("a", "a", "b"), ("a", "b", "a"), ("b", "a", "a"), ("a", "a", "a")):
            self.no_view(Unroll(*names), NUMBERS, [])

    def test_see(self):
        self.shows(self.view, NUMBERS, (7, []), rows((0, 7)))
        self.shows(self.view, NUMBERS, (7, [(8, []), (9, [])]), rows((0, 7), (1, 8), (1, 9)))
        self.shows(self.view, NUMBERS, TREE,
                   rows((0, 1), (1, 2), (2, 3), (2, 4), (3, 5), (1, 6), (1, 7), (2, 8)))
        self.shows(Unroll("z", "y", "x"), POINTS, bare((1, [(2, [])])),
                   [{"z": 0, "y": 0, "x": point(1)}, {"z": 1, "y": 1, "x": point(2)}])

    def test_put(self):
        self.puts(self.view, NUMBERS, TREE, rows((0, 7)), (7, []))
        self.puts(self.view, NUMBERS, (0, []), rows((0, 1), (1, 2), (2, 3), (2, 4), (3, 5), (1, 6), (1, 7), (2, 8)), TREE)
        self.puts(self.view, NUMBERS, (0, []), rows((0, 1), (1, 2), (2, 3), (3, 4), (1, 5)),
                  (1, [(2, [(3, [(4, [])])]), (5, [])]))
        self.puts(self.view, NUMBERS, (0, []), rows((0, 1), (1, 2), (2, 3), (3, 4), (2, 5), (3, 6)),
                  (1, [(2, [(3, [(4, [])]), (5, [(6, [])])])]))
        self.puts(Unroll("z", "y", "x"), POINTS, (point(1), []), [{"z": 0, "y": 0, "x": point(3, "")}], (point(3, ""), []))

    def test_no_rows(self):
        self.refuses(self.view, NUMBERS, TREE, [], [])

    def test_a_wrong_number(self):
        self.refuses(self.view, NUMBERS, TREE, [row(1, 0, 1)], [0, "at"])
        self.refuses(self.view, NUMBERS, TREE, [row(-1, 0, 1)], [0, "at"])
        self.refuses(self.view, NUMBERS, TREE, [row(0, 0, 1), row(2, 1, 1), row(4, 1, 1)], [1, "at"])
        self.refuses(Unroll("z", "y", "x"), NUMBERS, TREE, [{"z": 5, "y": 0, "x": 1}], [0, "z"])

    def test_a_wrong_depth(self):
        self.refuses(self.view, NUMBERS, TREE, rows((1, 1)), [0, "deep"])
        self.refuses(self.view, NUMBERS, TREE, rows((-1, 1)), [0, "deep"])
        self.refuses(self.view, NUMBERS, TREE, rows((0, 1), (0, 1)), [1, "deep"])
        self.refuses(self.view, NUMBERS, TREE, rows((0, 1), (-1, 1)), [1, "deep"])
        self.refuses(self.view, NUMBERS, TREE, rows((0, 1), (2, 1)), [1, "deep"])
        self.refuses(self.view, NUMBERS, TREE, rows((0, 1), (1, 1), (2, 1), (4, 1)), [3, "deep"])
        self.refuses(self.view, NUMBERS, TREE, rows((0, 1), (1, 1), (2, 1), (1, 1), (3, 1)), [4, "deep"])
        self.refuses(self.view, NUMBERS, TREE, rows((0, 1), (1, 1), (0, 1), (5, 1)), [2, "deep"])
        self.refuses(Unroll("z", "y", "x"), NUMBERS, TREE, [{"z": 0, "y": 2, "x": 1}], [0, "y"])

    def test_the_first_row_and_the_number_ahead_of_the_depth(self):
        self.refuses(self.view, NUMBERS, TREE, [row(3, 3, 1)], [0, "at"])
        self.refuses(self.view, NUMBERS, TREE, [row(0, 0, 1), row(2, 9, 1)], [1, "at"])
        self.refuses(self.view, NUMBERS, TREE, [row(0, 0, 1), row(1, 2, 1), row(5, 1, 1)], [1, "deep"])
        self.refuses(self.view, NUMBERS, TREE, [row(0, 0, 1), row(2, 1, 1), row(5, 9, 1)], [1, "at"])

    def test_what_does_not_fit_goes_ahead(self):
        self.refuses(self.view, NUMBERS, TREE, [row(5, 5, 1), row(6, 5, "a")], [1, "knot"])
        self.refuses(self.view, NUMBERS, TREE, [row(0, 5, 1), row(0, 1, 1)], [1])
        self.refuses(self.view, NUMBERS, TREE, [row(1, 0, 1), row(0, 1, 1)], [1])
        self.refuses(self.view, NUMBERS, TREE, [row(0, True, 1)], [0, "deep"])
        self.refuses(self.view, NUMBERS, TREE, (), [])
        self.refuses(self.view, NUMBERS, TREE, TREE, [])
        self.refuses_what_does_not_fit(self.view, POINTS, bare((1, [(2, []), (3, [])])))

    def test_grade_and_keeps(self):
        self.assertEqual(self.view.grade(), "full")
        self.keeps_just(self.view, [], ["at", "deep", "knot", "x"])

    def test_laws(self):
        seens = [rows(*zip(depths, (5, 6, 7))) for depths in itertools.product((-1, 0, 1, 2), repeat=2)]
        seens += [rows(*zip(depths, (5, 6, 7))) for depths in itertools.product((0, 1, 2, 3), repeat=3)]
        self.lawful(self.view, NUMBERS, TREES, [[], None] + seens[::3])

    def test_there_and_back(self):
        done = 0
        for depths in itertools.product((0, 1, 2, 3), repeat=5):
            seen = rows(*zip(depths, range(5)))
            told, new = outcome(self.view, NUMBERS, TREE, seen)
            good = all(1 <= deep <= depths[at] + 1 for at, deep in enumerate(depths[1:]))
            self.assertEqual(told, "new" if depths[0] == 0 and good else "refused")
            if told == "new":
                self.assertEqual(self.view.see(NUMBERS, new), seen)
                done += 1
        # As many as there are trees of five knots that reach at most three steps beneath the top.
        self.assertEqual(done, 13)

    def test_sixty_knots_deep_and_wide(self):
        deep = line(DEEP)
        told = rows(*[(number, number) for number in range(DEEP + 1)])
        self.shows(self.view, NUMBERS, deep, told)
        self.puts(self.view, NUMBERS, (0, []), told, deep)
        wide = (0, [(number, []) for number in range(1, DEEP + 1)])
        self.shows(self.view, NUMBERS, wide, rows((0, 0), *[(1, number) for number in range(1, DEEP + 1)]))


class TreeChainTest(ViewCase):
    def test_rows_of_a_tree_kept(self):
        chain = Chain([Boughs(At("x")), Unroll("at", "deep", "knot"), Keep(("less", ("deep",), 2))])
        source = (point(1, "a"), [(point(2, "b"), [(point(3, "c"), [])])])
        self.shows(chain, POINTS, source, rows((0, 1), (1, 2)))
        self.puts(chain, POINTS, source, rows((0, 5), (1, 6)), (point(5, "a"), [(point(6, "b"), [(point(3, "c"), [])])]))
        self.refuses(chain, POINTS, source, rows((0, 5)), [1, 1, "at"])
        self.refuses(chain, POINTS, source, rows((0, 5), (1, 6), (1, 7)), [2, 2])
        self.refuses(chain, POINTS, source, rows((0, 5), (2, 6)), [2, 1])
        self.refuses(chain, POINTS, source, rows((0, 5), (1, "6")), [2, 1, "knot"])
        new = chain.put_row(POINTS, source, rows((0, 5), (1, 6)))
        self.assertEqual(chain.seen_row(POINTS, new[0]), new)


if __name__ == "__main__":
    unittest.main()

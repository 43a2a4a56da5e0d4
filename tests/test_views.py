import copy
import unittest

from putback.errors import CantPut, NoView
from putback.kinds import either_of, kind_at, record_of, rows_of
from putback.values import misfit
from putback.views import Chain, View, worse

N = ("number",)
W = ("word",)
POINT = record_of([("x", N), ("y", N)])
ROWS = rows_of("id", "", [("id", N), ("name", W)])
TREE = ("tree", POINT)
SHAPE = either_of([("dot", POINT), ("rows", ROWS)])
BOX = record_of([("in", record_of([("point", POINT)])), ("n", N)])
HOUSE = record_of([("n", N), ("rows", ROWS), ("shape", SHAPE), ("tree", TREE)])

THINGS = [None, True, False, 1, "a", [], (), {}, [1], (1,), (1, []), {"a": 1}, [None], {"x": 1, "y": True}, ("dot", None)]


def row(key, name="n"):
    return {"id": key, "name": name}


def point(x, y):
    return {"x": x, "y": y}


def house():
    return {
        "n": 1, "rows": [row(1), row(2)], "shape": ("rows", [row(3)]), "tree": (point(1, 2), [(point(3, 4), [])]),
    }


SAMPLES = [
    (N, 1, 2), (W, "a", ""), (POINT, point(1, 2), point(3, 4)), (ROWS, [row(1)], [row(0), row(2)]),
    (TREE, (point(1, 2), []), (point(0, 0), [(point(1, 1), [])])), (SHAPE, ("dot", point(1, 2)), ("rows", [])),
    (HOUSE, house(), {"n": 2, "rows": [], "shape": ("dot", point(0, 0)), "tree": (point(0, 0), [])}),
]

MISFITS = [
    (N, 1, [], "1"), (N, 1, [], True), (N, 1, [], None), (W, "a", [], 1), (POINT, point(1, 2), [], {"x": 1}),
    (POINT, point(1, 2), ["y"], point(1, None)), (ROWS, [], [], ()), (ROWS, [], [1], [row(1), row(1)]),
    (ROWS, [], [1, "name"], [row(2), row(1, 5)]), (TREE, (point(1, 2), []), [0, "knot", "x"], (point(1, 2), [(point("", ""), [])])),
    (SHAPE, ("rows", []), ["rows", 0], ("rows", [1])), (SHAPE, ("rows", []), [], ["rows", []]),
    (HOUSE, house(), ["shape", "dot", "x"], {**house(), "shape": ("dot", point(False, 1))}),
]


class Only(View):
    """Of a record one field alone; its own refusals are told with the view's name and that field's."""

    def __init__(self, name):
        self.name = name

    def behind(self, kind):
        inner = kind_at(kind[1], self.name) if kind[0] == "record" else None
        if inner is None:
            raise NoView(["only", self.name])
        return inner

    def see(self, kind, source):
        return source[self.name]

    def put(self, kind, source, seen):
        place = misfit(self.behind(kind), seen)
        if place is not None:
            raise CantPut(place)
        return {**source, self.name: seen}

    def grade(self):
        return "firm"

    def keeps(self, name):
        return False


class Shift(View):
    """A number, greater by some; what is greater than the limit is refused."""

    def __init__(self, by, limit=1000, worth="full", kept="abc"):
        self.by, self.limit, self.worth, self.kept = by, limit, worth, kept
        self.asked = 0

    def behind(self, kind):
        if kind != N:
            raise NoView([])
        return kind

    def see(self, kind, source):
        return source + self.by

    def put(self, kind, source, seen):
        self.asked += 1
        place = misfit(N, seen)
        if place is not None:
            raise CantPut(place)
        if seen > self.limit:
            raise CantPut(["limit", self.limit])
        return seen - self.by

    def grade(self):
        return self.worth

    def keeps(self, name):
        return name in self.kept


class Digits(View):
    """A number as a word, so that the kinds in a row differ."""

    def behind(self, kind):
        if kind != N:
            raise NoView([])
        return W

    def see(self, kind, source):
        return str(source)

    def put(self, kind, source, seen):
        place = misfit(W, seen)
        if place is not None:
            raise CantPut(place)
        if not seen.isdigit() or str(int(seen)) != seen:
            raise CantPut(["digits"])
        return int(seen)


class ViewCase(unittest.TestCase):
    def cant_put(self, view, kind, source, seen, way):
        held = copy.deepcopy((source, seen))
        ways = ["put", "put_row"] if isinstance(view, Chain) else ["put"]
        for name in ways:
            with self.assertRaises(CantPut) as caught:
                getattr(view, name)(kind, source, seen)
            self.assertIsInstance(caught.exception.way, list)
            self.assertEqual(caught.exception.way, way)
        self.assertEqual((source, seen), held)

    def no_view(self, chain, kind, way):
        for ask in (chain.behind, chain.kinds_row):
            with self.assertRaises(NoView) as caught:
                ask(kind)
            self.assertIsInstance(caught.exception.way, list)
            self.assertEqual(caught.exception.way, way)

    def is_plain_view(self, view):
        for kind, source, seen in SAMPLES:
            held = copy.deepcopy((source, seen))
            self.assertEqual(view.behind(kind), kind)
            self.assertEqual(view.see(kind, source), source)
            self.assertEqual(view.put(kind, source, seen), held[1])
            self.assertEqual(view.put(kind, source, view.see(kind, source)), held[0])
            self.assertEqual((source, seen), held)
        for kind, source, place, seen in MISFITS:
            self.cant_put(view, kind, source, seen, place)
        for kind, source, fitting in SAMPLES:
            for thing in THINGS:
                if misfit(kind, thing) is not None:
                    self.cant_put(view, kind, source, thing, misfit(kind, thing))
        self.assertEqual(view.grade(), "full")
        for name in ("a", "rows", "strange"):
            self.assertIs(view.keeps(name), True)


class PlainViewTest(ViewCase):
    def test_the_plain_view(self):
        self.is_plain_view(View())

    def test_a_source_changed_later_is_seen_as_it_is_then(self):
        view = Chain([View(), View()])
        source = house()
        view.see(HOUSE, source)
        source["n"] = 9
        self.assertEqual(view.see(HOUSE, source)["n"], 9)


class NoStepTest(ViewCase):
    def test_as_the_plain_view(self):
        self.is_plain_view(Chain([]))

    def test_it_is_a_view(self):
        self.assertIsInstance(Chain([]), View)
        self.assertEqual(Chain([]).steps, [])

    def test_rows(self):
        for kind, source, seen in SAMPLES:
            self.assertEqual(Chain([]).kinds_row(kind), [kind])
            self.assertEqual(Chain([]).seen_row(kind, source), [source])
            self.assertEqual(Chain([]).put_row(kind, source, seen), [seen])


class ChainTest(ViewCase):
    def path_chain(self):
        return Chain([Only("in"), Only("point"), Only("y"), Shift(10)])

    def box(self):
        return {"in": {"point": point(1, 2)}, "n": 3}

    def test_one_step(self):
        chain = Chain([Shift(5)])
        self.assertEqual(chain.behind(N), N)
        self.assertEqual(chain.see(N, 1), 6)
        self.assertEqual(chain.put(N, 1, 0), -5)
        self.assertEqual(chain.put_row(N, 1, 0), [-5, 0])
        self.cant_put(chain, N, 1, "a", [0])
        self.cant_put(chain, N, 1, 1001, [0, "limit", 1000])
        self.no_view(chain, W, [0])

    def test_one_plain_step(self):
        chain = Chain([View()])
        for kind, source, seen in SAMPLES:
            self.assertEqual(chain.put_row(kind, source, seen), [seen, seen])
        for kind, source, place, seen in MISFITS:
            self.cant_put(chain, kind, source, seen, [0] + place)

    def test_several_steps(self):
        chain = self.path_chain()
        self.assertEqual(chain.behind(BOX), N)
        self.assertEqual(chain.see(BOX, self.box()), 12)
        self.assertEqual(chain.put(BOX, self.box(), 5), {"in": {"point": point(1, -5)}, "n": 3})

    def test_the_second_step_looks_at_what_the_first_shows(self):
        self.assertEqual(Chain([Shift(1), Digits()]).see(N, 1), "2")
        self.assertEqual(Chain([Shift(1), Digits()]).put(N, 1, "9"), 8)
        self.no_view(Chain([Digits(), Shift(1)]), N, [1])

    def test_rows(self):
        chain = self.path_chain()
        inner = record_of([("point", POINT)])
        self.assertEqual(chain.kinds_row(BOX), [BOX, inner, POINT, N, N])
        self.assertEqual(chain.seen_row(BOX, self.box()), [self.box(), {"point": point(1, 2)}, point(1, 2), 2, 12])
        put_row = chain.put_row(BOX, self.box(), 5)
        new = {"in": {"point": point(1, -5)}, "n": 3}
        self.assertEqual(put_row, [new, {"point": point(1, -5)}, point(1, -5), -5, 5])
        self.assertEqual(chain.seen_row(BOX, new), put_row)
        for row_told in (chain.kinds_row(BOX), chain.seen_row(BOX, self.box()), put_row):
            self.assertIsInstance(row_told, list)

    def test_putting_back_what_is_shown(self):
        chain = self.path_chain()
        self.assertEqual(chain.put_row(BOX, self.box(), 12), chain.seen_row(BOX, self.box()))

    def test_nothing_handed_in_is_changed(self):
        source = self.box()
        self.path_chain().put_row(BOX, source, 5)
        self.assertEqual(source, self.box())

    def test_no_view_with_the_steps_number_and_its_way(self):
        chain = self.path_chain()
        self.no_view(chain, N, [0, "only", "in"])
        self.no_view(chain, POINT, [0, "only", "in"])
        self.no_view(chain, record_of([("in", N)]), [1, "only", "point"])
        self.no_view(chain, record_of([("in", record_of([("point", record_of([("x", N)]))]))]), [2, "only", "y"])
        self.no_view(chain, record_of([("in", record_of([("point", record_of([("y", W)]))]))]), [3])
        self.no_view(Chain([View(), Only("z"), Only("w")]), POINT, [1, "only", "z"])

    def test_cant_put_with_the_steps_number_and_its_way(self):
        chain = Chain([Shift(1, 10), Shift(1, 20), Shift(1, 30)])
        self.cant_put(chain, N, 0, 31, [2, "limit", 30])
        self.cant_put(chain, N, 0, 30, [1, "limit", 20])
        self.cant_put(chain, N, 0, 21, [0, "limit", 10])
        self.assertEqual(chain.put(N, 0, 12), 9)

    def test_what_does_not_fit_is_the_last_steps_refusal(self):
        self.cant_put(self.path_chain(), BOX, self.box(), "a", [3])
        chain = Chain([Only("in"), Only("point")])
        self.cant_put(chain, BOX, self.box(), point(1, True), [1, "y"])
        self.cant_put(chain, BOX, self.box(), None, [1])
        self.cant_put(Chain([Only("in"), View()]), BOX, self.box(), {"point": point(1, "2")}, [1, "point", "y"])

    def test_no_further_step_is_asked(self):
        first, second, third = Shift(1), Shift(1, 5), Shift(1)
        with self.assertRaises(CantPut):
            Chain([first, second, third]).put(N, 0, 100)
        self.assertEqual([first.asked, second.asked, third.asked], [0, 1, 1])

    def test_chains_within_chains(self):
        chain = Chain([Chain([Only("in"), Chain([])]), Chain([Chain([Only("point")]), Only("y")]), Shift(10, 100)])
        inner = record_of([("point", POINT)])
        self.assertEqual(chain.kinds_row(BOX), [BOX, inner, N, N])
        self.assertEqual(chain.seen_row(BOX, self.box()), [self.box(), {"point": point(1, 2)}, 2, 12])
        new = {"in": {"point": point(1, -5)}, "n": 3}
        self.assertEqual(chain.put_row(BOX, self.box(), 5), [new, {"point": point(1, -5)}, -5, 5])
        self.cant_put(chain, BOX, self.box(), 101, [2, "limit", 100])
        self.cant_put(Chain([Only("n"), Chain([View(), Chain([Shift(1)])])]), BOX, self.box(), "a", [1, 1, 0])
        self.cant_put(Chain([Only("n"), Chain([])]), BOX, self.box(), "a", [1])
        self.cant_put(Chain([Chain([View(), Shift(1, 5)]), Shift(1)]), N, 0, 9, [0, 1, "limit", 5])
        self.no_view(chain, record_of([("in", record_of([("point", W)]))]), [1, 1, "only", "y"])
        self.no_view(chain, record_of([("in", record_of([]))]), [1, 0, 0, "only", "point"])

    def test_the_list_of_steps_changed_later(self):
        steps = [Shift(1), Shift(2)]
        chain = Chain(steps)
        held = list(steps)
        steps.append(Shift(4))
        steps[0] = Digits()
        self.assertEqual(chain.steps, held)
        self.assertIsInstance(chain.steps, list)
        self.assertEqual(chain.see(N, 0), 3)
        steps.clear()
        self.assertEqual(chain.put(N, 0, 0), -3)

    def test_twelve_steps(self):
        chain = Chain([Shift(number) for number in range(12)])
        self.assertEqual(chain.see(N, 0), 66)
        self.assertEqual(len(chain.put_row(N, 0, 66)), 13)


class GradeTest(unittest.TestCase):
    def test_worse(self):
        grades = ["full", "firm", "loose"]
        for one, first in enumerate(grades):
            for other, second in enumerate(grades):
                self.assertEqual(worse(first, second), grades[max(one, other)])

    def test_the_worst_of_the_steps(self):
        full, firm, loose = [Shift(1, worth=worth) for worth in ("full", "firm", "loose")]
        for steps, grade in [
            ([], "full"), ([full], "full"), ([firm], "firm"), ([loose], "loose"), ([full, firm, full], "firm"),
            ([firm, loose, full], "loose"), ([loose, firm], "loose"), ([full, full], "full"), ([Chain([full, firm]), full], "firm"),
        ]:
            self.assertEqual(Chain(steps).grade(), grade)


class KeepsTest(unittest.TestCase):
    def test_where_every_step_keeps_it(self):
        chain = Chain([Shift(1, kept="ab"), View(), Shift(1, kept="bc")])
        self.assertEqual([chain.keeps(name) for name in ("a", "b", "c", "d")], [False, True, False, False])
        nested = Chain([Chain([chain]), Chain([])])
        self.assertEqual([nested.keeps(name) for name in ("a", "b", "c", "d")], [False, True, False, False])
        for name in ("a", "b"):
            self.assertIsInstance(chain.keeps(name), bool)


if __name__ == "__main__":
    unittest.main()

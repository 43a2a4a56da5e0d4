import copy
import unittest

from putback.errors import NoPaper
from putback.kinds import either_of, record_of, rows_of
from putback.papers import between, done, turned
from putback.values import misfit

N = ("number",)
W = ("word",)
POINT = record_of([("y", N), ("x", N)])
TREE = ("tree", N)
ROWS = rows_of("id", "rank", [("id", N), ("rank", N), ("a", W)])
TAGS = rows_of("tag", "", [("tag", W), ("n", N)])
SHAPE = either_of([("dot", POINT), ("line", W), ("tags", TAGS)])
ALL = record_of([("w", W), ("tree", ("tree", SHAPE)), ("rows", ROWS), ("point", POINT), ("either", SHAPE)])
DEEP = rows_of("id", "", [("id", N), ("rows", TAGS), ("tree", TREE)])


def row(key, rank, a="a"):
    return {"id": key, "rank": rank, "a": a}


def tag(word, number=0):
    return {"tag": word, "n": number}


def one_all():
    return {
        "w": "one", "tree": (("line", "l"), [(("dot", {"x": 1, "y": 2}), []), (("tags", []), [])]),
        "rows": [row(1, 1), row(2, 2)], "point": {"x": 1, "y": 2}, "either": ("tags", [tag("a"), tag("b")]),
    }


def other_all():
    return {
        "w": "other", "tree": (("line", "m"), [(("dot", {"x": 1, "y": 3}), [(("line", ""), [])])]),
        "rows": [row(3, 0), row(2, 1), row(0, 9)], "point": {"x": 3, "y": 4}, "either": ("tags", [tag("b", 1), tag("c")]),
    }


NO_TREE = (1, [])
SOME_TREE = (1, [(2, []), (3, [(4, [])])])

# Of each kind several values: each is led to each other one.
FAMILIES = [
    (N, [0, 1, -1, int("9" * 60)]),
    (W, ["", "a", "ab", "b"]),
    (record_of([]), [{}]),
    (POINT, [{"x": 0, "y": 0}, {"x": 1, "y": 0}, {"x": 0, "y": 1}, {"x": 1, "y": 1}]),
    (ROWS, [[], [row(1, 1)], [row(1, 2)], [row(2, 1), row(1, 2)], [row(1, 1), row(2, 1)], [row(3, 0), row(2, 1, "b"), row(0, 5)]]),
    (TAGS, [[], [tag("")], [tag("a")], [tag("a"), tag("ab"), tag("b")], [tag("ab", 1), tag("c")]]),
    (TREE, [NO_TREE, SOME_TREE, (2, []), (1, [(3, []), (3, [])]), (1, [(2, [(5, []), (6, [])])]), (0, [NO_TREE] * 4)]),
    (SHAPE, [("dot", {"x": 1, "y": 1}), ("dot", {"x": 1, "y": 2}), ("line", ""), ("line", "a"), ("tags", []), ("tags", [tag("a")])]),
    (DEEP, [
        [], [{"id": 1, "rows": [], "tree": NO_TREE}], [{"id": 1, "rows": [tag("a")], "tree": SOME_TREE}],
        [{"id": 0, "rows": [tag("b")], "tree": NO_TREE}, {"id": 1, "rows": [tag("a", 1), tag("b")], "tree": (1, [(2, [])])}],
    ]),
    (ALL, [one_all(), other_all()]),
]


class BetweenCase(unittest.TestCase):
    def tells(self, kind, old, new, paper):
        old_then = copy.deepcopy(old)
        new_then = copy.deepcopy(new)
        told = between(kind, old, new)
        self.assertEqual(told, paper)
        self.assertIsInstance(told, list)
        self.assertEqual((old, new), (old_then, new_then))


class PlainTest(BetweenCase):
    def test_numbers_and_words(self):
        self.tells(N, 1, 2, [("set", (), 2)])
        self.tells(W, "a", "", [("set", (), "")])
        self.tells(N, 1, 1, [])
        self.tells(W, "a", "a", [])


class RecordTest(BetweenCase):
    def test_the_fields_in_the_order_of_names(self):
        self.tells(POINT, {"y": 1, "x": 1}, {"y": 2, "x": 3}, [("set", ("x",), 3), ("set", ("y",), 2)])
        self.tells(POINT, {"x": 1, "y": 1}, {"x": 1, "y": 2}, [("set", ("y",), 2)])
        self.tells(record_of([]), {}, {}, [])

    def test_within_a_record(self):
        kind = record_of([("b", POINT), ("a", TAGS), ("c", TREE)])
        old = {"b": {"x": 1, "y": 1}, "a": [tag("a")], "c": NO_TREE}
        new = {"b": {"x": 2, "y": 1}, "a": [], "c": (2, [])}
        self.tells(kind, old, new, [("cut", ("a",), "a"), ("set", ("b", "x"), 2), ("set", ("c", "knot"), 2)])


class RowsTest(BetweenCase):
    def test_cut_add_and_within_by_rising_keys(self):
        old = [row(5, 1), row(3, 2), row(1, 3)]
        new = [row(3, 1, "b"), row(4, 2), row(2, 3), row(1, 9)]
        self.tells(ROWS, old, new, [
            ("set", (1, "rank"), 9), ("add", (), row(2, 3)), ("set", (3, "a"), "b"), ("set", (3, "rank"), 1),
            ("add", (), row(4, 2)), ("cut", (), 5),
        ])

    def test_numbers_rise_as_numbers(self):
        self.tells(ROWS, [row(9, 1), row(10, 1)], [row(-1, 1), row(-10, 2)], [
            ("add", (), row(-10, 2)), ("add", (), row(-1, 1)), ("cut", (), 9), ("cut", (), 10),
        ])

    def test_words_rise_sign_by_sign(self):
        old = [tag(""), tag("B"), tag("a")]
        new = [tag("10"), tag("9"), tag("ab"), tag("b")]
        self.tells(TAGS, old, new, [
            ("cut", (), ""), ("add", (), tag("10")), ("add", (), tag("9")), ("cut", (), "B"), ("cut", (), "a"),
            ("add", (), tag("ab")), ("add", (), tag("b")),
        ])

    def test_an_order_that_changes_is_told_by_sets_alone(self):
        self.tells(ROWS, [row(1, 1), row(2, 2)], [row(2, 2), row(1, 3)], [("set", (1, "rank"), 3)])

    def test_rows_within_rows(self):
        old = [{"id": 1, "rows": [tag("a", 1)], "tree": NO_TREE}]
        new = [{"id": 1, "rows": [tag("a", 2), tag("b")], "tree": (1, [(2, [])])}]
        self.tells(DEEP, old, new, [
            ("set", (1, "rows", "a", "n"), 2), ("add", (1, "rows"), tag("b")), ("grow", (1, "tree"), (2, [])),
        ])


class TreeTest(BetweenCase):
    def test_the_knot_then_the_arms(self):
        old = (1, [(2, []), (3, [(4, [])])])
        new = (9, [(8, []), (3, [(7, [])])])
        self.tells(TREE, old, new, [("set", ("knot",), 9), ("set", (0, "knot"), 8), ("set", (1, 0, "knot"), 7)])

    def test_trims(self):
        self.tells(TREE, (1, [(2, []), (3, []), (4, [])]), (1, [(5, [])]), [("set", (0, "knot"), 5), ("trim", ()), ("trim", ())])
        self.tells(TREE, SOME_TREE, NO_TREE, [("trim", ()), ("trim", ())])

    def test_grows(self):
        self.tells(TREE, NO_TREE, SOME_TREE, [("grow", (), (2, [])), ("grow", (), (3, [(4, [])]))])

    def test_trims_and_grows_of_arms_come_ahead_of_those_of_the_knot(self):
        old = (1, [(2, [(3, [])]), (4, []), (5, [])])
        new = (1, [(2, []), (4, [(6, []), (7, [])])])
        self.tells(TREE, old, new, [("trim", (0,)), ("grow", (1,), (6, [])), ("grow", (1,), (7, [])), ("trim", ())])

    def test_an_arm_gone_ahead_of_others_shifts_them(self):
        old = (1, [(2, []), (3, [])])
        self.tells(TREE, old, (1, [(3, [])]), [("set", (0, "knot"), 3), ("trim", ())])


class EitherTest(BetweenCase):
    def test_the_same_shape(self):
        self.tells(SHAPE, ("line", "a"), ("line", "b"), [("set", ("line",), "b")])
        self.tells(SHAPE, ("dot", {"x": 1, "y": 2}), ("dot", {"x": 1, "y": 3}), [("set", ("dot", "y"), 3)])
        self.tells(SHAPE, ("tags", [tag("a")]), ("tags", []), [("cut", ("tags",), "a")])

    def test_another_shape(self):
        self.tells(SHAPE, ("line", "a"), ("tags", [tag("a")]), [("set", (), ("tags", [tag("a")]))])

    def test_two_shapes_with_the_same_value(self):
        kind = either_of([("a", N), ("b", N)])
        self.tells(kind, ("a", 1), ("b", 1), [("set", (), ("b", 1))])
        self.tells(kind, ("a", 1), ("a", 1), [])
        self.tells(record_of([("e", kind)]), {"e": ("a", 1)}, {"e": ("b", 2)}, [("set", ("e",), ("b", 2))])


class WholeTest(BetweenCase):
    def test_all_forms_in_one(self):
        self.tells(ALL, one_all(), other_all(), [
            ("cut", ("either", "tags"), "a"), ("set", ("either", "tags", "b", "n"), 1), ("add", ("either", "tags"), tag("c")),
            ("set", ("point", "x"), 3), ("set", ("point", "y"), 4),
            ("add", ("rows",), row(0, 9)), ("cut", ("rows",), 1), ("set", ("rows", 2, "rank"), 1), ("add", ("rows",), row(3, 0)),
            ("set", ("tree", "knot", "line"), "m"), ("set", ("tree", 0, "knot", "dot", "y"), 3),
            ("grow", ("tree", 0), (("line", ""), [])), ("trim", ("tree",)), ("set", ("w",), "other"),
        ])

    def test_no_step_between_equal_values(self):
        for kind, values in FAMILIES:
            for value in values:
                self.tells(kind, value, copy.deepcopy(value), [])
                self.tells(kind, value, value, [])

    def test_the_steps_and_paths_are_tuples(self):
        told = [step for kind, values in FAMILIES for old in values for new in values for step in between(kind, old, new)]
        self.assertGreater(len(told), 100)
        for step in told:
            self.assertIsInstance(step, tuple)
            self.assertIsInstance(step[1], tuple)

    def test_done_on_the_old_value_it_gives_the_new_one(self):
        for kind, values in FAMILIES:
            for old in values:
                for new in values:
                    told = done(kind, between(kind, old, new), old)
                    self.assertEqual(told, new)
                    self.assertIsNone(misfit(kind, told))


class TurnedTest(unittest.TestCase):
    def test_the_paper_back(self):
        self.assertEqual(turned(N, [("set", (), 2)], 1), [("set", (), 1)])
        self.assertEqual(turned(N, [("set", (), 2), ("set", (), 3)], 1), [("set", (), 1)])
        self.assertEqual(turned(N, [("set", (), 2), ("set", (), 1)], 1), [])
        self.assertEqual(turned(N, [], 1), [])
        self.assertEqual(turned(ROWS, [("cut", (), 1)], [row(1, 1)]), [("add", (), row(1, 1))])
        self.assertEqual(turned(ROWS, [("add", (), row(2, 1))], [row(1, 1)]), [("cut", (), 2)])
        self.assertEqual(turned(TREE, [("grow", (0,), (3, []))], (1, [(2, [])])), [("trim", (0,))])
        self.assertEqual(turned(TREE, [("trim", ())], (1, [(2, [])])), [("grow", (), (2, []))])
        self.assertEqual(turned(SHAPE, [("set", (), ("tags", []))], ("line", "")), [("set", (), ("line", ""))])

    def test_it_leads_back(self):
        for kind, values in FAMILIES:
            for old in values:
                for new in values:
                    paper = between(kind, old, new)
                    back = turned(kind, paper, old)
                    self.assertEqual(back, between(kind, new, old))
                    self.assertEqual(done(kind, back, new), old)

    def test_nothing_handed_in_is_changed(self):
        old = one_all()
        paper = between(ALL, one_all(), other_all())
        turned(ALL, paper, old)
        self.assertEqual(old, one_all())
        self.assertEqual(paper, between(ALL, one_all(), other_all()))

    def test_refused_as_the_paper_is(self):
        for paper, at in [([("trim", ())], 0), ([("set", ("knot",), 2), ("set", (), 2)], 1), ([("grow", (), (1, []))] * 3 + [("cut", (), 1)], 3)]:
            for ask in (done, turned):
                with self.assertRaises(NoPaper) as caught:
                    ask(TREE, paper, (1, []))
                self.assertEqual(caught.exception.at, at)


if __name__ == "__main__":
    unittest.main()

import copy
import unittest

from putback.kinds import either_of, record_of, rows_of
from putback.values import copied, empty, in_order, misfit, rank

N = ("number",)
W = ("word",)
ROWS = rows_of("id", "", [("id", N), ("tags", rows_of("tag", "", [("tag", W)]))])
SHAPE = either_of([("many", ROWS), ("few", record_of([("n", N)]))])
TREE = ("tree", SHAPE)
ALL = record_of([("tree", TREE), ("rows", ROWS), ("shape", SHAPE), ("n", N), ("w", W), ("none", record_of([]))])


def some_rows():
    return [{"id": 1, "tags": [{"tag": "a"}, {"tag": "b"}]}, {"id": 2, "tags": []}]


def some_all():
    tree = (("many", some_rows()), [(("few", {"n": 1}), []), (("many", []), [(("few", {"n": 2}), [])])])
    return {"tree": tree, "rows": some_rows(), "shape": ("few", {"n": 3}), "n": 4, "w": "five", "none": {}}


SAMPLES = [
    (N, 7), (W, "word"), (record_of([]), {}), (record_of([("a", N)]), {"a": 1}),
    (ROWS, some_rows()), (ROWS, []), (SHAPE, ("few", {"n": 1})), (SHAPE, ("many", some_rows())),
    (TREE, some_all()["tree"]), (ALL, some_all()),
]


def holders(value):
    """Every dict and list within a value, the value itself too."""
    if isinstance(value, dict):
        return [value] + [held for part in value.values() for held in holders(part)]
    if isinstance(value, list):
        return [value] + [held for part in value for held in holders(part)]
    if isinstance(value, tuple):
        return [held for part in value for held in holders(part)]
    return []


def spoil(value):
    for holder in holders(value):
        if isinstance(holder, dict):
            holder["spoiled"] = True
        else:
            holder.append("spoiled")


class EmptyTest(unittest.TestCase):
    def test_each_form(self):
        self.assertEqual(repr(empty(N)), "0")
        self.assertEqual(empty(W), "")
        self.assertEqual(empty(record_of([("a", N), ("b", W)])), {"a": 0, "b": ""})
        self.assertEqual(empty(record_of([])), {})
        self.assertEqual(empty(ROWS), [])
        self.assertEqual(empty(("tree", W)), ("", []))
        self.assertEqual(empty(either_of([("b", N), ("a", W), ("c", ROWS)])), ("a", ""))

    def test_nested(self):
        few = ("few", {"n": 0})
        self.assertEqual(empty(SHAPE), few)
        self.assertEqual(empty(TREE), (few, []))
        self.assertEqual(empty(("tree", TREE)), ((few, []), []))
        self.assertEqual(empty(ALL), {"tree": (few, []), "rows": [], "shape": few, "n": 0, "w": "", "none": {}})

    def test_the_empty_value_is_of_the_kind(self):
        for kind, value in SAMPLES:
            self.assertIsNone(misfit(kind, empty(kind)))

    def test_each_is_anew(self):
        for kind, value in SAMPLES:
            before = repr(empty(kind))
            spoil(empty(kind))
            self.assertEqual(repr(empty(kind)), before)

    def test_the_fields_share_nothing(self):
        kind = record_of([("a", ROWS), ("b", ROWS)])
        value = empty(kind)
        value["a"].append(1)
        self.assertEqual(value["b"], [])


class CopiedTest(unittest.TestCase):
    def test_the_same_value(self):
        for kind, value in SAMPLES:
            told = copied(kind, value)
            self.assertEqual(told, value)
            self.assertIsNone(misfit(kind, told))

    def test_the_value_stays(self):
        for kind, value in SAMPLES:
            before = copy.deepcopy(value)
            copied(kind, value)
            self.assertEqual(value, before)

    def test_nothing_is_shared(self):
        for kind, value in SAMPLES:
            # All three are kept, so that no place in memory is given out again.
            three = [value, copied(kind, value), copied(kind, value)]
            held = [id(holder) for one in three for holder in holders(one)]
            self.assertEqual(len(set(held)), 3 * len(holders(value)))

    def test_a_change_to_the_copy_leaves_the_value(self):
        for kind, value in SAMPLES:
            before = copy.deepcopy(value)
            other = copied(kind, value)
            spoil(copied(kind, value))
            self.assertEqual(value, before)
            self.assertEqual(other, before)

    def test_a_change_to_the_value_leaves_the_copy(self):
        for kind, value in SAMPLES:
            mine = copy.deepcopy(value)
            told = copied(kind, mine)
            spoil(mine)
            self.assertEqual(told, value)

    def test_a_part_that_stands_twice_is_copied_twice(self):
        part = []
        kind = record_of([("a", ROWS), ("b", ROWS)])
        told = copied(kind, {"a": part, "b": part})
        told["a"].append(1)
        self.assertEqual(told["b"], [])

    def test_a_line_of_sixty_knots(self):
        tree = (0, [])
        for knot in range(59):
            tree = (knot, [tree])
        self.assertEqual(copied(("tree", N), tree), tree)


class OrderTest(unittest.TestCase):
    by_id = rows_of("id", "", [("id", N), ("name", W)])
    by_name = rows_of("id", "name", [("id", N), ("name", W)])
    by_number = rows_of("name", "id", [("id", N), ("name", W)])
    words = rows_of("name", "", [("id", N), ("name", W)])

    def rows(self, *pairs):
        return [{"id": key, "name": name} for key, name in pairs]

    def ordered(self, kind, rows):
        told = in_order(kind, rows)
        self.assertIsNone(misfit(kind, told))
        return [(row["id"], row["name"]) for row in told]

    def test_rank(self):
        row = {"id": -3, "name": "x"}
        self.assertEqual(rank(self.by_id, row), (-3,))
        self.assertEqual(rank(self.by_name, row), ("x", -3))
        self.assertEqual(rank(self.by_number, row), (-3, "x"))
        self.assertEqual(rank(self.words, row), ("x",))
        self.assertIsInstance(rank(self.words, row), tuple)
        self.assertEqual(row, {"id": -3, "name": "x"})

    def test_numbers(self):
        large = int("9" * 60)
        rows = self.rows((10, ""), (-large, ""), (9, ""), (large, ""), (0, ""), (-1, ""), (large - 1, ""), (-10, ""))
        told = [key for key, name in self.ordered(self.by_id, rows)]
        self.assertEqual(told, [-large, -10, -1, 0, 9, 10, large - 1, large])

    def test_words(self):
        rows = self.rows((0, "b"), (1, "aa"), (2, ""), (3, "Z"), (4, "a"), (5, "~"), (6, " "), (7, "10"), (8, "9"))
        told = [name for key, name in self.ordered(self.words, rows)]
        self.assertEqual(told, ["", " ", "10", "9", "Z", "a", "aa", "b", "~"])

    def test_by_and_then_key(self):
        rows = self.rows((2, "b"), (1, "b"), (3, "a"), (-1, "c"), (0, "b"))
        self.assertEqual(self.ordered(self.by_name, rows), [(3, "a"), (0, "b"), (1, "b"), (2, "b"), (-1, "c")])
        rows = self.rows((2, "b"), (1, "c"), (1, "a"), (-1, "d"))
        self.assertEqual(self.ordered(self.by_number, rows), [(-1, "d"), (1, "a"), (1, "c"), (2, "b")])

    def test_without_by_the_key_alone(self):
        self.assertEqual(self.ordered(self.by_id, self.rows((2, "a"), (1, "b"))), [(1, "b"), (2, "a")])

    def test_no_rows_and_one(self):
        self.assertEqual(in_order(self.by_id, []), [])
        self.assertEqual(self.ordered(self.by_name, self.rows((1, "a"))), [(1, "a")])

    def test_a_new_list_and_the_one_handed_in_stays(self):
        for rows in (self.rows((2, "a"), (1, "b")), self.rows((1, "a"), (2, "b")), []):
            before = copy.deepcopy(rows)
            told = in_order(self.by_id, rows)
            self.assertIsInstance(told, list)
            self.assertIsNot(told, rows)
            self.assertEqual(rows, before)


if __name__ == "__main__":
    unittest.main()

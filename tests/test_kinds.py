import itertools
import unittest

from putback.errors import NoKind
from putback.kinds import either_of, is_plain, kind_at, record_of, rows_of

N = ("number",)
W = ("word",)
SHAPES = ("either", (("dot", N), ("line", W)))
TREE = ("tree", N)
INNER = ("record", (("x", N),))
TABLE = ("rows", "id", "", (("id", N),))
NOT_PLAIN = [SHAPES, TREE, INNER, TABLE]

# The order of the names is neither that of the kinds nor the one told.
PAIRS = [("c", N), ("a", W), ("ab", TREE), ("b", INNER)]
FIELDS = (("a", W), ("ab", TREE), ("b", INNER), ("c", N))


def table_pairs():
    return [("name", W), ("id", N), ("age", N), ("sub", INNER), ("arms", TREE), ("many", TABLE), ("one", SHAPES)]


class OrderOfPairsTest(unittest.TestCase):
    def test_pairs_in_any_order_come_out_rising(self):
        for pairs in itertools.permutations(PAIRS):
            self.assertEqual(record_of(list(pairs)), ("record", FIELDS))
            self.assertEqual(either_of(list(pairs)), ("either", FIELDS))
            self.assertEqual(rows_of("c", "a", list(pairs)), ("rows", "c", "a", FIELDS))

    def test_a_beginning_stands_ahead_of_the_word(self):
        pairs = [("b", N), ("aa", N), ("a", N), ("ab", N)]
        names = [name for name, kind in record_of(pairs)[1]]
        self.assertEqual(names, ["a", "aa", "ab", "b"])

    def test_kinds_are_tuples_throughout(self):
        for kind in (record_of(PAIRS), either_of(PAIRS), rows_of("c", "", PAIRS)):
            self.assertIsInstance(kind, tuple)
            self.assertIsInstance(kind[-1], tuple)
            for pair in kind[-1]:
                self.assertIsInstance(pair, tuple)
            self.assertIsInstance(hash(kind), int)

    def test_the_list_handed_in_stays(self):
        pairs = list(PAIRS)
        record_of(pairs)
        either_of(pairs)
        rows_of("c", "a", pairs)
        self.assertEqual(pairs, PAIRS)

    def test_a_kind_does_not_hang_on_the_list_later(self):
        pairs = list(PAIRS)
        kind = record_of(pairs)
        pairs.clear()
        self.assertEqual(kind, ("record", FIELDS))

    def test_twelve_fields(self):
        names = ["l", "b", "k", "a", "j", "c", "i", "d", "h", "e", "g", "f"]
        kind = record_of([(name, N) for name in names])
        self.assertEqual("".join([name for name, inner in kind[1]]), "abcdefghijkl")

    def test_kinds_of_kinds(self):
        kind = W
        for depth in range(7):
            kind = record_of([("b", N), ("a", kind)])
        for depth in range(7):
            self.assertEqual([name for name, inner in kind[1]], ["a", "b"])
            kind = kind_at(kind[1], "a")
        self.assertEqual(kind, W)


class NoKindTest(unittest.TestCase):
    def refused(self, maker, *args):
        with self.assertRaises(NoKind):
            maker(*args)

    def test_a_record_may_have_no_fields(self):
        self.assertEqual(record_of([]), ("record", ()))

    def test_an_either_has_at_least_one(self):
        self.refused(either_of, [])
        self.assertEqual(either_of([("a", N)]), ("either", (("a", N),)))

    def test_a_name_twice(self):
        for pairs in ([("a", N), ("a", N)], [("a", N), ("b", W), ("a", W)], [("b", N), ("a", TREE), ("b", INNER)]):
            self.refused(record_of, pairs)
            self.refused(either_of, pairs)
        for kind in [N, W] + NOT_PLAIN:
            self.refused(rows_of, "id", "", [("id", N), ("a", kind), ("a", N)])
        self.refused(rows_of, "id", "", [("id", N), ("id", N)])

    def test_the_key_is_a_field(self):
        self.refused(rows_of, "gone", "", table_pairs())
        self.refused(rows_of, "gone", "id", table_pairs())
        self.refused(rows_of, "", "", table_pairs())
        self.refused(rows_of, "id", "", [])

    def test_the_key_is_plain(self):
        for name in ("sub", "arms", "many", "one"):
            self.refused(rows_of, name, "", table_pairs())
            self.refused(rows_of, name, "id", table_pairs())
        self.assertEqual(rows_of("name", "", table_pairs())[:3], ("rows", "name", ""))
        self.assertEqual(rows_of("id", "", table_pairs())[:3], ("rows", "id", ""))

    def test_by_is_a_field(self):
        self.refused(rows_of, "id", "gone", table_pairs())

    def test_by_is_plain(self):
        for name in ("sub", "arms", "many", "one"):
            self.refused(rows_of, "id", name, table_pairs())
        self.assertEqual(rows_of("id", "name", table_pairs())[:3], ("rows", "id", "name"))
        self.assertEqual(rows_of("id", "age", table_pairs())[:3], ("rows", "id", "age"))

    def test_by_is_not_the_key(self):
        self.refused(rows_of, "id", "id", table_pairs())
        self.refused(rows_of, "name", "name", table_pairs())

    def test_rows_of_the_key_alone(self):
        self.assertEqual(rows_of("id", "", [("id", W)]), ("rows", "id", "", (("id", W),)))

    def test_a_refusal_leaves_the_list(self):
        pairs = [("b", N), ("a", W), ("b", N)]
        self.refused(record_of, pairs)
        self.assertEqual(pairs, [("b", N), ("a", W), ("b", N)])


class FieldsTest(unittest.TestCase):
    def test_kind_at(self):
        for name, kind in FIELDS:
            self.assertEqual(kind_at(FIELDS, name), kind)

    def test_kind_at_a_strange_name(self):
        for name in ("d", "", "aba", "A"):
            self.assertIsNone(kind_at(FIELDS, name))
        self.assertIsNone(kind_at((), "a"))

    def test_is_plain(self):
        self.assertIs(is_plain(N), True)
        self.assertIs(is_plain(W), True)
        for kind in NOT_PLAIN + [("record", ()), ("tree", W)]:
            self.assertIs(is_plain(kind), False)


if __name__ == "__main__":
    unittest.main()

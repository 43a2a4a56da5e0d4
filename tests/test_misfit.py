import copy
import unittest

from putback.values import misfit

N = ("number",)
W = ("word",)
POINT = ("record", (("x", N), ("y", N)))
PERSON = ("record", (("at", POINT), ("name", W)))
NONE = ("record", ())
BY_ID = ("rows", "id", "", (("id", N), ("name", W)))
BY_NAME = ("rows", "id", "name", (("id", N), ("name", W)))
WORDS = ("rows", "word", "", (("word", W),))
TREE = ("tree", N)
FOREST = ("tree", BY_ID)
SHAPE = ("either", (("dot", POINT), ("line", W)))

EVERY_KIND = [N, W, NONE, POINT, PERSON, BY_ID, BY_NAME, WORDS, TREE, FOREST, SHAPE]


def row(key, name):
    return {"id": key, "name": name}


class MisfitCase(unittest.TestCase):
    def fits(self, kind, *values):
        for value in values:
            self.assertIsNone(misfit(kind, value), value)

    def wrong(self, kind, place, *values):
        for value in values:
            told = misfit(kind, value)
            self.assertIsInstance(told, list, value)
            self.assertEqual(told, place, value)


class PlainTest(MisfitCase):
    def test_numbers(self):
        self.fits(N, 0, 1, -1, int("9" * 60), -int("9" * 60), int("9" * 200))
        self.wrong(N, [], "", "1", None, [], (), {}, [1], (1,), {"a": 1})

    def test_true_and_false_are_no_numbers(self):
        self.wrong(N, [], True, False)

    def test_words(self):
        self.fits(W, "", "a", " ~", "A" * 40, "[]")
        self.wrong(W, [], 0, 1, True, None, [], ["a"], ("a",), {}, {"a": "a"})


class RecordTest(MisfitCase):
    def test_records(self):
        self.fits(POINT, {"x": 1, "y": 2}, {"y": 2, "x": 1})
        self.fits(PERSON, {"name": "n", "at": {"x": 0, "y": 0}})
        self.fits(NONE, {})

    def test_no_dict(self):
        self.wrong(POINT, [], None, 0, "", True, [], (), [("x", 1), ("y", 2)], (("x", 1), ("y", 2)), "xy", ["x", "y"])
        self.wrong(NONE, [], [], (), "", None, 0, False)

    def test_a_field_gone_or_strange(self):
        self.wrong(POINT, [], {}, {"x": 1}, {"y": 1}, {"x": 1, "y": 2, "z": 3}, {"x": 1, "z": 2}, {"": 0, "x": 1})
        self.wrong(NONE, [], {"x": 1})

    def test_names_go_ahead_of_the_fields(self):
        self.wrong(POINT, [], {"x": "no"}, {"x": "no", "y": "no", "z": 1}, {"x": None, "z": None})

    def test_within(self):
        self.wrong(POINT, ["x"], {"x": "1", "y": 2}, {"y": "2", "x": "1"}, {"x": None, "y": None})
        self.wrong(POINT, ["y"], {"x": 1, "y": "2"}, {"y": True, "x": 1})
        self.wrong(PERSON, ["at"], {"at": 1, "name": "n"}, {"at": {"x": 1}, "name": 1})
        self.wrong(PERSON, ["at", "y"], {"name": 0, "at": {"y": "", "x": 0}})
        self.wrong(PERSON, ["name"], {"name": 0, "at": {"y": 0, "x": 0}})


class RowsTest(MisfitCase):
    def test_rows(self):
        self.fits(BY_ID, [], [row(1, "b")], [row(-2, "b"), row(0, "a"), row(10, "a")])
        self.fits(BY_NAME, [], [row(9, "a"), row(1, "b"), row(2, "b"), row(0, "c")])
        self.fits(WORDS, [{"word": ""}, {"word": "A"}, {"word": "a"}, {"word": "aa"}, {"word": "b"}])

    def test_no_list(self):
        self.wrong(BY_ID, [], None, 0, "", {}, (), True, (row(1, "a"),), row(1, "a"))

    def test_a_row_as_a_record(self):
        self.wrong(BY_ID, [0], [1], [None], [[]], [{}], [{"id": 1}], [{"id": 1, "name": "", "more": 1}], ["ab"])
        self.wrong(BY_ID, [0, "id"], [row("1", "a")], [row(True, "a")], [row(None, None), 1])
        self.wrong(BY_ID, [0, "name"], [row(1, 1)])
        self.wrong(BY_ID, [1], [row(1, "a"), ("id", 1)])
        self.wrong(BY_ID, [1, "name"], [row(1, "a"), row(2, 2)], [row(1, "a"), row(0, 2)], [row(1, "a"), row(1, [])])

    def test_not_behind_the_row_ahead(self):
        self.wrong(BY_ID, [1], [row(2, "a"), row(1, "b")], [row(2, "a"), row(1, "b"), row(0, "c")])
        self.wrong(BY_ID, [2], [row(1, "a"), row(3, "b"), row(2, "c")])
        self.wrong(BY_ID, [1], [row(0, "a"), row(-1, "b")], [row(10, "a"), row(9, "b")])
        self.wrong(BY_NAME, [1], [row(1, "b"), row(2, "a")], [row(2, "a"), row(1, "a")], [row(1, "aa"), row(2, "a")])
        self.wrong(BY_NAME, [1], [row(1, "a"), row(2, "Z")])
        self.wrong(WORDS, [1], [{"word": "9"}, {"word": "10"}])

    def test_a_key_again(self):
        self.wrong(BY_ID, [1], [row(1, "a"), row(1, "b")], [row(1, "a"), row(1, "a")])
        self.wrong(BY_NAME, [1], [row(1, "a"), row(1, "a")], [row(1, "a"), row(1, "b")])

    def test_a_key_again_further_behind(self):
        self.wrong(BY_NAME, [2], [row(1, "a"), row(2, "b"), row(1, "c")])
        self.wrong(BY_NAME, [3], [row(1, "a"), row(2, "b"), row(3, "b"), row(2, "c"), row(1, "d")])

    def test_the_first_wrong_row_is_told(self):
        self.wrong(BY_ID, [1], [row(2, "a"), row(1, "b"), None])
        self.wrong(BY_ID, [0, "name"], [row(2, None), row(1, "b"), None])
        self.wrong(BY_NAME, [1], [row(2, "b"), row(1, "a"), row(2, "c")])

    def test_sixty_rows(self):
        rows = [row(key, "") for key in range(60)]
        self.fits(BY_ID, rows)
        self.wrong(BY_ID, [59, "id"], rows[:59] + [row("59", "")])


class TreeTest(MisfitCase):
    def test_trees(self):
        self.fits(TREE, (1, []), (1, [(0, []), (0, [(2, [])])]))
        self.fits(FOREST, ([], []), ([row(1, "a")], [([], [])]))

    def test_no_knot(self):
        self.wrong(TREE, [], None, 0, "", [], {}, (), (1,), (1, [], []), [1, []], (1, ()), (1, None), (1, {}), ([], 1))
        self.wrong(TREE, [], ("no", 0), (1, "ab"))

    def test_the_knot(self):
        self.wrong(TREE, ["knot"], ("1", []), (True, []), (None, [None]), ([], [("", [])]))
        self.wrong(FOREST, ["knot", 1, "name"], ([row(1, "a"), row(2, 0)], [None]))
        self.wrong(FOREST, ["knot", 1], ([row(1, "a"), row(0, "b")], []))

    def test_the_arms(self):
        self.wrong(TREE, [0], (1, [2]), (1, [None, None]), (1, [[2, []]]), (1, [(2, ())]))
        self.wrong(TREE, [1], (1, [(2, []), (3,)]))
        self.wrong(TREE, [1, "knot"], (1, [(2, []), ("3", [])]))
        self.wrong(TREE, [0, 0, "knot"], (1, [(2, [("3", [])]), None]))
        self.wrong(TREE, [0, 1], (1, [(2, [(3, []), 4]), ("5", [])]))
        self.wrong(FOREST, [0, "knot", 0, "id"], ([], [([row("", "")], [])]))

    def test_a_line_of_sixty_knots(self):
        tree = (0, [])
        bad = ("", [])
        for knot in range(59):
            tree = (knot, [tree])
            bad = (knot, [bad])
        self.fits(TREE, tree)
        self.wrong(TREE, [0] * 59 + ["knot"], bad)


class EitherTest(MisfitCase):
    def test_eithers(self):
        self.fits(SHAPE, ("line", ""), ("dot", {"x": 0, "y": 0}))

    def test_no_pair(self):
        self.wrong(SHAPE, [], None, 0, "line", "ab", {}, [], (), ("line",), ("line", "", ""), ["line", ""], {"line": ""})

    def test_an_unknown_shape(self):
        self.wrong(SHAPE, [], ("ring", ""), ("", ""), (0, ""), (None, ""), (True, ""), ("Line", ""))
        self.wrong(SHAPE, [], ([], ""), ({}, ""), (("line",), ""), (["line"], ""))

    def test_within(self):
        self.wrong(SHAPE, ["line"], ("line", 1), ("line", None), ("line", {"x": 0, "y": 0}))
        self.wrong(SHAPE, ["dot"], ("dot", "a"), ("dot", {}))
        self.wrong(SHAPE, ["dot", "y"], ("dot", {"x": 0, "y": False}))


class EverythingTest(MisfitCase):
    def junk(self):
        leaves = [0, -1, True, False, None, "", "line", [], (), {}]
        made = list(leaves)
        for one in leaves:
            made += [[one], (one,), {"x": one}, {"x": one, "y": one}, {"id": one, "name": one}]
            for other in leaves:
                made += [(one, other), [one, other], {"id": one, "name": other}]
        return made + [[thing] for thing in made] + [("line", thing) for thing in made] + [(0, [thing]) for thing in made]

    def test_anything_is_answered_and_nothing_is_changed(self):
        for kind in EVERY_KIND:
            for value in self.junk():
                before = copy.deepcopy(value)
                told = misfit(kind, value)
                self.assertTrue(told is None or isinstance(told, list), (kind, value))
                self.assertEqual(repr(value), repr(before))

    def test_nested_kinds(self):
        kind = ("record", (("all", ("rows", "id", "", (("arms", ("tree", SHAPE)), ("id", N)))),))
        good = {"all": [{"id": 1, "arms": (("line", ""), [(("dot", {"x": 1, "y": 2}), [])])}]}
        self.fits(kind, good)
        bad = copy.deepcopy(good)
        bad["all"][0]["arms"][1][0][0][1]["y"] = "2"
        self.wrong(kind, ["all", 0, "arms", 0, "knot", "dot", "y"], bad)

    def test_each_asking_is_anew(self):
        first = misfit(POINT, {"x": "", "y": 0})
        first.append("more")
        self.wrong(POINT, ["x"], {"x": "", "y": 0})
        misfit(N, "").append("more")
        self.wrong(N, [], "")


if __name__ == "__main__":
    unittest.main()

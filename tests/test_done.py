import copy
import unittest

from putback.errors import NoPaper
from putback.kinds import either_of, record_of, rows_of
from putback.papers import done, turned
from putback.values import misfit

N = ("number",)
W = ("word",)
POINT = record_of([("x", N), ("y", N)])
TAGS = rows_of("tag", "", [("tag", W), ("n", N)])
SHAPE = either_of([("dot", POINT), ("line", W), ("many", TAGS), ("size", N)])
TREE = ("tree", N)
ROWS = rows_of("id", "rank", [("id", N), ("rank", N), ("name", W)])
DEEP = rows_of("id", "by", [
    ("id", N), ("by", W), ("inner", record_of([("id", N)])), ("shape", SHAPE), ("tags", TAGS), ("tree", ("tree", SHAPE)),
])
HOUSE = record_of([("deep", DEEP), ("n", N), ("point", POINT), ("rows", ROWS), ("shape", SHAPE), ("tree", TREE), ("w", W)])


def row(key, rank, name="n"):
    return {"id": key, "rank": rank, "name": name}


def some_tree():
    return (1, [(2, []), (3, [(4, []), (5, [])])])


def deep_row(key, by):
    tree = (("size", 1), [(("many", [{"tag": "t", "n": 1}]), []), (("dot", {"x": 1, "y": 2}), [])])
    return {
        "id": key, "by": by, "inner": {"id": 9}, "shape": ("many", [{"tag": "a", "n": 1}, {"tag": "c", "n": 2}]),
        "tags": [{"tag": "p", "n": 1}, {"tag": "q", "n": 2}], "tree": tree,
    }


def house():
    return {
        "deep": [deep_row(2, "a"), deep_row(1, "b")], "n": 7, "point": {"x": 1, "y": 2},
        "rows": [row(3, 1), row(1, 2), row(2, 2)], "shape": ("dot", {"x": 3, "y": 4}), "tree": some_tree(), "w": "high",
    }


class PaperCase(unittest.TestCase):
    def gives(self, kind, paper, value, wanted):
        paper_then = copy.deepcopy(paper)
        value_then = copy.deepcopy(value)
        told = done(kind, paper, value)
        self.assertEqual(told, wanted)
        self.assertIsNone(misfit(kind, told))
        self.assertEqual(paper, paper_then)
        self.assertEqual(value, value_then)
        self.assertIsNone(misfit(kind, value))

    def refused(self, kind, paper, value, at):
        paper_then = copy.deepcopy(paper)
        value_then = copy.deepcopy(value)
        for ask in (done, turned):
            with self.assertRaises(NoPaper) as caught:
                ask(kind, paper, value)
            self.assertEqual(repr(caught.exception.at), repr(at), paper)
        self.assertEqual(paper, paper_then)
        self.assertEqual(value, value_then)

    def no_step(self, kind, value, *steps):
        for step in steps:
            self.refused(kind, [step], value, 0)

    def house_gives(self, paper, change):
        wanted = house()
        change(wanted)
        self.gives(HOUSE, paper, house(), wanted)

    def no_house_step(self, *steps):
        """Refused as the first step, and as a later one with its own number."""
        for step in steps:
            self.refused(HOUSE, [step], house(), 0)
            self.refused(HOUSE, [("set", ("n",), 8), ("set", ("w",), "low"), step, ("set", (), 0)], house(), 2)


class TopTest(PaperCase):
    def test_a_paper_of_no_steps(self):
        for kind, value in [(N, 1), (W, ""), (POINT, {"x": 1, "y": 2}), (ROWS, []), (TREE, some_tree()), (HOUSE, house())]:
            self.gives(kind, [], value, copy.deepcopy(value))

    def test_set(self):
        self.gives(N, [("set", (), 2)], 1, 2)
        self.gives(N, [("set", (), -int("9" * 60))], 1, -int("9" * 60))
        self.gives(W, [("set", (), "")], "a", "")
        self.gives(SHAPE, [("set", (), ("line", "l"))], ("size", 1), ("line", "l"))
        self.gives(SHAPE, [("set", (), ("size", 2))], ("size", 1), ("size", 2))
        self.gives(SHAPE, [("set", ("size",), 3)], ("size", 1), ("size", 3))
        self.gives(N, [("set", (), 1)], 1, 1)

    def test_add(self):
        self.gives(ROWS, [("add", (), row(1, 1))], [], [row(1, 1)])
        rows = [row(3, 1), row(1, 2), row(4, 2)]
        self.gives(ROWS, [("add", (), row(2, 2))], rows, [row(3, 1), row(1, 2), row(2, 2), row(4, 2)])
        self.gives(ROWS, [("add", (), row(9, 0))], rows, [row(9, 0)] + rows)
        self.gives(ROWS, [("add", (), row(0, 9))], rows, rows + [row(0, 9)])
        tags = [{"tag": "b", "n": 1}]
        self.gives(TAGS, [("add", (), {"n": 9, "tag": "a"})], tags, [{"tag": "a", "n": 9}] + tags)

    def test_cut(self):
        rows = [row(3, 1), row(1, 2), row(2, 2)]
        self.gives(ROWS, [("cut", (), 3)], rows, rows[1:])
        self.gives(ROWS, [("cut", (), 1)], rows, [rows[0], rows[2]])
        self.gives(ROWS, [("cut", (), 2)], rows, rows[:2])
        self.gives(TAGS, [("cut", (), "a")], [{"tag": "a", "n": 1}], [])

    def test_grow(self):
        self.gives(TREE, [("grow", (), (2, []))], (1, []), (1, [(2, [])]))
        self.gives(TREE, [("grow", (), some_tree())], some_tree(), (1, some_tree()[1] + [some_tree()]))

    def test_trim(self):
        self.gives(TREE, [("trim", ())], some_tree(), (1, [(2, [])]))
        self.gives(TREE, [("trim", ())], (1, [(2, [])]), (1, []))


class WithinTest(PaperCase):
    def test_records(self):
        self.house_gives([("set", ("n",), 8)], lambda h: h.update(n=8))
        self.house_gives([("set", ("point", "y"), 8)], lambda h: h["point"].update(y=8))
        self.house_gives([("set", ("shape",), ("size", 1))], lambda h: h.update(shape=("size", 1)))
        self.house_gives([("set", ("shape", "dot", "x"), 8)], lambda h: h.update(shape=("dot", {"x": 8, "y": 4})))

    def test_rows(self):
        self.house_gives([("set", ("rows", 1, "name"), "m")], lambda h: h["rows"][1].update(name="m"))
        self.house_gives([("add", ("rows",), row(0, 2))], lambda h: h["rows"].insert(1, row(0, 2)))
        self.house_gives([("cut", ("rows",), 1)], lambda h: h["rows"].pop(1))

    def test_trees(self):
        self.house_gives([("set", ("tree", "knot"), 9)], lambda h: h.update(tree=(9, some_tree()[1])))
        self.house_gives([("set", ("tree", 0, "knot"), 9)], lambda h: h["tree"][1].__setitem__(0, (9, [])))
        self.house_gives([("set", ("tree", 1, 0, "knot"), 9)], lambda h: h["tree"][1][1][1].__setitem__(0, (9, [])))
        self.house_gives([("grow", ("tree",), (9, []))], lambda h: h["tree"][1].append((9, [])))
        self.house_gives([("grow", ("tree", 1, 1), (9, []))], lambda h: h["tree"][1][1][1][1][1].append((9, [])))
        self.house_gives([("trim", ("tree", 1))], lambda h: h["tree"][1][1][1].pop())
        self.house_gives([("trim", ("tree",))], lambda h: h["tree"][1].pop())

    def test_a_tree_of_trees(self):
        kind = ("tree", TREE)
        value = ((1, [(2, [])]), [((3, []), [])])
        self.gives(kind, [("set", ("knot", "knot"), 9)], value, ((9, [(2, [])]), [((3, []), [])]))
        self.gives(kind, [("set", ("knot", 0, "knot"), 9)], value, ((1, [(9, [])]), [((3, []), [])]))
        self.gives(kind, [("grow", ("knot",), (9, []))], value, ((1, [(2, []), (9, [])]), [((3, []), [])]))
        self.gives(kind, [("trim", ("knot",))], value, ((1, []), [((3, []), [])]))
        self.gives(kind, [("trim", ())], value, ((1, [(2, [])]), []))
        self.gives(kind, [("grow", (0, "knot"), (9, []))], value, ((1, [(2, [])]), [((3, [(9, [])]), [])]))

    def test_eithers(self):
        value = ("many", [{"tag": "b", "n": 1}])
        self.gives(SHAPE, [("set", ("many", "b", "n"), 2)], value, ("many", [{"tag": "b", "n": 2}]))
        self.gives(SHAPE, [("cut", ("many",), "b")], value, ("many", []))
        self.gives(SHAPE, [("add", ("many",), {"tag": "a", "n": 2})], value, ("many", [{"tag": "a", "n": 2}] + value[1]))

    def test_deep(self):
        def first(h):
            return h["deep"][0]

        new_tag = {"tag": "b", "n": 5}
        self.house_gives([("set", ("deep", 2, "inner", "id"), 5)], lambda h: first(h)["inner"].update(id=5))
        self.house_gives([("set", ("deep", 2, "tags", "q", "n"), 5)], lambda h: first(h)["tags"][1].update(n=5))
        self.house_gives([("add", ("deep", 2, "tags"), new_tag)], lambda h: first(h)["tags"].insert(0, new_tag))
        self.house_gives([("cut", ("deep", 2, "tags"), "p")], lambda h: first(h)["tags"].pop(0))
        self.house_gives([("add", ("deep", 2, "shape", "many"), new_tag)], lambda h: first(h)["shape"][1].insert(1, new_tag))
        self.house_gives(
            [("set", ("deep", 2, "tree", 0, "knot", "many", "t", "n"), 5)],
            lambda h: first(h)["tree"][1][0][0][1][0].update(n=5),
        )
        self.house_gives([("trim", ("deep", 2, "tree"))], lambda h: first(h)["tree"][1].pop())
        self.house_gives([("cut", ("deep",), 2)], lambda h: h["deep"].pop(0))
        self.house_gives([("add", ("deep",), deep_row(0, "b"))], lambda h: h["deep"].insert(1, deep_row(0, "b")))

    def test_a_path_as_deep_as_a_value_may_be(self):
        def stem(length, last):
            tree = (last, [])
            for number in range(length):
                tree = (number, [tree])
            return tree

        self.gives(TREE, [("set", (0,) * 59 + ("knot",), 5)], stem(59, 4), stem(59, 5))
        self.refused(TREE, [("set", (0,) * 60 + ("knot",), 5)], stem(59, 4), 0)


class OrderTest(PaperCase):
    def test_a_set_of_the_value_at_by(self):
        rows = [row(3, 1), row(1, 2), row(2, 2)]
        self.gives(ROWS, [("set", (3, "rank"), 5)], rows, [row(1, 2), row(2, 2), row(3, 5)])
        self.gives(ROWS, [("set", (3, "rank"), 2)], rows, [row(1, 2), row(2, 2), row(3, 2)])
        self.gives(ROWS, [("set", (2, "rank"), 1)], rows, [row(2, 1), row(3, 1), row(1, 2)])
        self.gives(ROWS, [("set", (2, "rank"), 0)], rows, [row(2, 0), row(3, 1), row(1, 2)])

    def test_within_other_things(self):
        self.house_gives([("set", ("rows", 3, "rank"), 5)], lambda h: h["rows"].append({**h["rows"].pop(0), "rank": 5}))
        self.house_gives([("set", ("deep", 2, "by"), "c")], lambda h: h["deep"].append({**h["deep"].pop(0), "by": "c"}))

    def test_the_key_finds_the_row_wherever_it_stands_then(self):
        rows = [row(1, 1), row(2, 2), row(3, 3)]
        paper = [("set", (1, "rank"), 9), ("set", (1, "name"), "x"), ("cut", (), 2), ("add", (), row(2, 4)), ("set", (3, "rank"), 5)]
        self.gives(ROWS, paper, rows, [row(2, 4), row(3, 5), row(1, 9, "x")])


class StepByStepTest(PaperCase):
    def test_each_step_stands_on_those_ahead(self):
        self.gives(N, [("set", (), 2), ("set", (), 3)], 1, 3)
        paper = [("set", (), ("many", [])), ("add", ("many",), {"tag": "a", "n": 1}), ("set", ("many", "a", "n"), 2)]
        self.gives(SHAPE, paper, ("size", 1), ("many", [{"tag": "a", "n": 2}]))
        paper = [("grow", (), (2, [])), ("grow", (0,), (3, [])), ("set", (0, 0, "knot"), 4), ("grow", (), (5, [])), ("trim", ())]
        self.gives(TREE, paper, (1, []), (1, [(2, [(4, [])])]))

    def test_what_was_put_in_stays_as_it_was_handed_in(self):
        grown = (2, [])
        paper = [("grow", (), grown), ("grow", (), grown), ("grow", (0,), (3, [])), ("set", (1, "knot"), 4)]
        self.gives(TREE, paper, (1, []), (1, [(2, [(3, [])]), (4, [])]))
        self.assertEqual(grown, (2, []))

    def test_a_row_cut_and_added_again(self):
        self.gives(ROWS, [("cut", (), 1), ("add", (), row(1, 9))], [row(1, 1)], [row(1, 9)])
        self.refused(ROWS, [("cut", (), 1), ("cut", (), 1)], [row(1, 1)], 1)
        self.refused(ROWS, [("add", (), row(2, 1)), ("add", (), row(2, 5))], [row(1, 1)], 1)

    def test_the_first_step_that_can_not_be_done_is_told(self):
        self.refused(N, [("set", (), "a"), ("set", (), "b")], 1, 0)
        self.refused(N, [("set", (), 2), ("set", (), "b"), ("set", (), "c")], 1, 1)
        self.refused(TREE, [("trim", ())] * 60, (1, [(2, [])] * 59), 59)
        self.refused(SHAPE, [("set", (), ("line", "")), ("set", ("size",), 2)], ("size", 1), 1)

    def test_sixty_steps(self):
        self.gives(TREE, [("grow", (), (2, []))] * 60, (1, []), (1, [(2, [])] * 60))


class NowhereTest(PaperCase):
    def test_strange_names(self):
        self.no_house_step(
            ("set", ("strange",), 1), ("set", ("point", "z"), 1), ("set", ("point", "n"), 1), ("set", ("",), 1),
            ("set", ("rows", 1, "strange"), 1), ("set", ("point", "knot"), 1), ("set", ("point", 0), 1), ("set", (0,), 1),
        )

    def test_keys_that_no_row_has(self):
        self.no_house_step(
            ("set", ("rows", 4, "name"), "m"), ("set", ("rows", 0, "name"), "m"), ("set", ("rows", -1, "name"), "m"),
            ("set", ("rows", "1", "name"), "m"), ("set", ("rows", "name"), "m"), ("set", ("deep", 1, "tags", "z", "n"), 1),
            ("set", ("deep", 1, "tags", 0, "n"), 1), ("set", ("deep", 1, "tags", "", "n"), 1),
        )
        self.no_step(ROWS, [], ("set", (0, "name"), "m"))

    def test_arms_that_are_not_there(self):
        self.no_house_step(
            ("set", ("tree", 2, "knot"), 1), ("set", ("tree", -1, "knot"), 1), ("set", ("tree", -2, "knot"), 1),
            ("set", ("tree", 0, 0, "knot"), 1), ("set", ("tree", "0", "knot"), 1), ("set", ("tree", "strange"), 1),
            ("grow", ("tree", 2), (1, [])), ("grow", ("tree", -1), (1, [])), ("trim", ("tree", 2)), ("trim", ("tree", -1)),
            ("trim", ("tree", int("9" * 60))),
        )

    def test_parts_behind_a_number_or_word(self):
        self.no_house_step(
            ("set", ("n", "x"), 1), ("set", ("n", 0), 1), ("set", ("w", 0), "h"), ("set", ("w", "h"), "h"),
            ("set", ("tree", "knot", "knot"), 1), ("set", ("tree", "knot", 0), 1), ("set", ("rows", 1, "id", "id"), 1),
        )
        self.no_step(N, 1, ("set", ("knot",), 1), ("set", (0,), 1))
        self.no_step(W, "ab", ("set", (0,), "a"))

    def test_another_shape_than_the_either_has(self):
        self.no_house_step(
            ("set", ("shape", "line"), "l"), ("set", ("shape", "strange"), 1), ("set", ("shape", 0), 1),
            ("set", ("shape", 1, "x"), 1), ("set", ("deep", 1, "shape", "size"), 1), ("add", ("shape", "many"), {"tag": "a", "n": 1}),
        )

    def test_true_and_false_are_no_parts_and_no_keys(self):
        rows = [row(0, 0), row(1, 1)]
        self.no_step(ROWS, rows, ("set", (True, "name"), "m"), ("set", (False, "name"), "m"))
        self.no_step(ROWS, rows, ("cut", (), True), ("cut", (), False))
        self.no_step(ROWS, [row(1, 1)], ("add", (), row(True, 1)), ("add", (), row(False, 1)), ("add", (), row(2, True)))
        tree = (1, [(2, []), (3, [])])
        self.no_step(TREE, tree, ("set", (True, "knot"), 1), ("set", (False, "knot"), 1))
        self.no_step(TREE, tree, ("grow", (True,), (1, [])), ("grow", (False,), (1, [])))
        self.no_step(TREE, (1, [(2, [(3, [])])] * 2), ("trim", (True,)), ("trim", (False,)))
        self.no_step(POINT, {"x": 1, "y": 2}, ("set", (True,), 1))
        self.no_step(SHAPE, ("size", 1), ("set", (False,), 1), ("set", (True,), 1))
        self.no_house_step(("cut", ("rows",), True), ("set", ("tree", True, "knot"), 1), ("set", ("deep", True, "by"), "c"))

    def test_other_keys_of_no_kind(self):
        self.no_step(ROWS, [row(1, 1)], ("cut", (), "1"), ("cut", (), ""), ("cut", (), "id"))
        self.no_step(TAGS, [{"tag": "1", "n": 1}], ("cut", (), 1), ("cut", (), 0))


class NotForThatKindTest(PaperCase):
    def test_set(self):
        self.no_house_step(
            ("set", (), house()), ("set", ("point",), {"x": 1, "y": 2}), ("set", ("rows",), []), ("set", ("tree",), (1, [])),
            ("set", ("rows", 1), row(1, 1)), ("set", ("tree", 0), (1, [])), ("set", ("shape", "dot"), {"x": 1, "y": 1}),
        )

    def test_add_and_cut(self):
        paths = [(), ("n",), ("w",), ("point",), ("rows", 1), ("tree",), ("tree", 0), ("tree", "knot"), ("shape",), ("shape", "dot")]
        for path in paths:
            self.no_house_step(("add", path, row(9, 9)), ("cut", path, 1), ("cut", path, "x"))
        self.no_step(SHAPE, ("many", [{"tag": "a", "n": 1}]), ("cut", (), "a"), ("cut", (), "many"))

    def test_grow_and_trim(self):
        paths = [(), ("n",), ("w",), ("point",), ("rows",), ("rows", 1), ("tree", "knot"), ("shape",), ("shape", "dot")]
        for path in paths:
            self.no_house_step(("grow", path, (1, [])), ("trim", path))

    def test_even_with_what_is_of_the_kind_there(self):
        things = [((), house()), (("n",), 1), (("w",), "a"), (("point",), {"x": 1, "y": 2}), (("rows",), []), (("shape",), ("size", 1))]
        for path, thing in things:
            self.no_house_step(("grow", path, thing), ("add", path, thing))
        self.no_house_step(("add", ("point",), {"x": 5, "y": 6}), ("add", ("tree",), (1, [])), ("add", ("rows", 1), row(9, 9)))


class NotOfTheKindTest(PaperCase):
    THINGS = [None, True, False, [], (), {}, [1], (1,), {"a": 1}, ("a", None), ("a", []), (None, None), [None]]

    def test_numbers_and_words(self):
        for thing in self.THINGS:
            self.no_house_step(("set", ("n",), thing), ("set", ("w",), thing))
        self.no_house_step(("set", ("n",), "1"), ("set", ("w",), 1), ("set", ("rows", 1, "rank"), "1"), ("set", ("n",), ""))

    def test_eithers(self):
        for thing in self.THINGS + [1, "dot", ("dot", 1), ("dot", {"x": 1}), ("dot", {"x": 1, "y": True})]:
            self.no_house_step(("set", ("shape",), thing))
        self.no_house_step(
            ("set", ("shape",), ("strange", 1)), ("set", ("shape",), ["size", 1]), ("set", ("shape",), ("size", 1, 1)),
            ("set", ("shape",), ("size", "1")), ("set", ("shape",), ("many", [{"tag": "b", "n": 1}, {"tag": "a", "n": 1}])),
            ("set", ("shape",), ("many", [{"tag": "a", "n": 1}, {"tag": "a", "n": 2}])),
        )

    def test_rows(self):
        gone = row(9, 9)
        gone.pop("name")
        for thing in self.THINGS + [1, "a", gone, {**row(9, 9), "more": 1}, row("9", 9), row(9, 9, 9), row(None, 9), [row(9, 9)]]:
            self.no_house_step(("add", ("rows",), thing))
        within = deep_row(9, "z")
        within["tree"][1][0][0][1][0]["n"] = False
        self.no_house_step(("add", ("deep",), within), ("add", ("deep",), {**deep_row(9, "z"), "tags": ()}))

    def test_trees(self):
        things = self.THINGS + [1, "a", (1, ()), (1, [], []), [1, []], ("1", []), (1, [1]), (1, [(1, [(True, [])])])]
        for thing in things:
            self.no_house_step(("grow", ("tree",), thing), ("grow", ("tree", 0), thing))
        self.no_house_step(("grow", ("deep", 1, "tree"), (("size", "1"), [])))


class OtherReasonsTest(PaperCase):
    def test_a_set_of_a_rows_key(self):
        self.no_house_step(
            ("set", ("rows", 1, "id"), 9), ("set", ("rows", 1, "id"), 1), ("set", ("deep", 1, "id"), 9),
            ("set", ("deep", 1, "tags", "p", "tag"), "p"), ("set", ("deep", 1, "tags", "p", "tag"), "z"),
            ("set", ("deep", 1, "shape", "many", "a", "tag"), "a"),
        )

    def test_a_field_called_like_the_key_but_in_no_row(self):
        self.house_gives([("set", ("deep", 2, "inner", "id"), 5)], lambda h: h["deep"][0]["inner"].update(id=5))
        kind = record_of([("id", N), ("rows", rows_of("id", "", [("id", N)]))])
        self.gives(kind, [("set", ("id",), 2)], {"id": 1, "rows": []}, {"id": 2, "rows": []})

    def test_an_added_row_whose_key_is_there(self):
        self.no_house_step(("add", ("rows",), row(1, 5)), ("add", ("rows",), row(1, 2)), ("add", ("rows",), row(3, 2)))
        self.no_house_step(("add", ("deep", 1, "tags"), {"tag": "q", "n": 1}))

    def test_a_cut_row_that_is_not_there(self):
        self.no_house_step(("cut", ("rows",), 4), ("cut", ("rows",), -1), ("cut", ("deep", 1, "tags"), "z"))
        self.no_step(ROWS, [], ("cut", (), 0))

    def test_no_arm_to_trim(self):
        self.no_house_step(("trim", ("tree", 0)), ("trim", ("tree", 1, 1)), ("trim", ("deep", 1, "tree", 0)))
        self.no_step(TREE, (1, []), ("trim", ()))


if __name__ == "__main__":
    unittest.main()

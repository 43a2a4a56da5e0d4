import copy
import itertools
import unittest

from viewcase import N, W, Shift, ViewCase, outcome

from putback.errors import CantPut
from putback.fields import At, Nest, Rename, Take, Unnest, Within
from putback.kinds import either_of, record_of, rows_of
from putback.tables import Beside, Each, Group, Keep, Order
from putback.views import Chain, View

FIELDS = [("age", N), ("id", N), ("name", W)]
PEOPLE = rows_of("id", "", FIELDS)
BY_AGE = rows_of("id", "age", FIELDS)
BY_NAME = rows_of("id", "name", FIELDS)
PERSON = record_of(FIELDS)
YOUNG = ("less", ("age",), 30)

TAGS = rows_of("tag", "", [("tag", W)])
ROOM = record_of([("high", N), ("wide", N)])
SHAPE = either_of([("dot", N), ("line", W)])
ODD = [("kept", TAGS), ("room", ROOM), ("shape", SHAPE), ("tree", ("tree", N)), ("word", W)]
MIXED = rows_of("word", "", ODD)


def person(key, name="n", age=20):
    return {"id": key, "name": name, "age": age}


def people(*keys):
    return [person(key) for key in keys]


def mixed(word, tags=(), dot=1, arms=0):
    return {
        "word": word, "kept": [{"tag": tag} for tag in tags], "room": {"high": 1, "wide": 2}, "shape": ("dot", dot),
        "tree": (0, [(1, [])] * arms),
    }


def some_rows(kind, keys, others):
    """All rows of the kind with these keys, each there or not, each with one of the other fields' parts."""
    told = []
    for picks in itertools.product([None] + others, repeat=len(keys)):
        rows = [{kind[1]: key, **pick} for key, pick in zip(keys, picks) if pick is not None]
        by = kind[2] or kind[1]
        told.append(sorted(rows, key=lambda row: (row[by], row[kind[1]])))
    return told


class KeepTest(ViewCase):
    def test_made(self):
        view = Keep(YOUNG)
        self.assertIsInstance(view, View)
        self.assertEqual(view.look, YOUNG)

    def test_behind_is_the_same_kind(self):
        for kind in (PEOPLE, BY_AGE, BY_NAME):
            self.stands(Keep(YOUNG), kind, kind)
        for look in (("same", ("word",), "a"), ("some", ("kept",)), ("some", ("tree",)), ("is", ("shape",), "line"),
                     ("less", ("room", "wide"), 3), ("not", ("same", ("word",), ""))):
            self.stands(Keep(look), MIXED, MIXED)

    def test_where_it_does_not_stand(self):
        self.no_view_but(Keep(("same", ("id",), 1)), ["rows"], [])
        self.no_view(Keep(YOUNG), PERSON, [])
        self.no_view(Keep(YOUNG), MIXED, ["look"])
        self.no_view(Keep(("less", (), 1)), PEOPLE, ["look"])
        self.no_view(Keep(("same", ("name",), 1)), PEOPLE, ["look"])
        self.no_view(Keep(("not", ("some", ("name",)))), PEOPLE, ["look", 1])
        self.no_view(Keep(("and", YOUNG, ("or", YOUNG, ("is", ("name",), "a")))), PEOPLE, ["look", 2, 2])

    def test_see(self):
        view = Keep(YOUNG)
        self.shows(view, PEOPLE, [], [])
        self.shows(view, PEOPLE, [person(1)], [person(1)])
        self.shows(view, PEOPLE, [person(1, age=30)], [])
        source = [person(1), person(2, age=40), person(3), person(4, age=50)]
        self.shows(view, PEOPLE, source, [person(1), person(3)])
        by_name = [person(9, "a"), person(2, "b", 40), person(1, "c")]
        self.shows(view, BY_NAME, by_name, [person(9, "a"), person(1, "c")])
        self.shows(Keep(("some", ("kept",))), MIXED, [mixed("a"), mixed("b", ("t",))], [mixed("b", ("t",))])
        self.shows(Keep(("some", ("tree",))), MIXED, [mixed("a", arms=2), mixed("b")], [mixed("a", arms=2)])
        self.shows(Keep(("is", ("shape",), "dot")), MIXED, [mixed("a")], [mixed("a")])

    def test_put_takes_the_hidden_rows_in_order(self):
        view = Keep(YOUNG)
        source = [person(1), person(2, age=40), person(3), person(4, age=50)]
        self.puts(view, PEOPLE, source, [], [person(2, age=40), person(4, age=50)])
        self.puts(view, PEOPLE, source, [person(0), person(3, "new"), person(9)],
                  [person(0), person(2, age=40), person(3, "new"), person(4, age=50), person(9)])
        self.puts(view, PEOPLE, [], [person(5)], [person(5)])
        self.puts(view, PEOPLE, [person(5, age=90)], [], [person(5, age=90)])
        by_name = [person(9, "a"), person(2, "b", 40), person(1, "c")]
        self.puts(view, BY_NAME, by_name, [person(3, "aa"), person(8, "b"), person(7, "d")],
                  [person(3, "aa"), person(2, "b", 40), person(8, "b"), person(7, "d")])
        self.puts(Keep(("not", YOUNG)), BY_AGE, [person(1, age=2), person(2, age=30)], [person(0, age=40)],
                  [person(1, age=2), person(0, age=40)])

    def test_a_row_of_which_the_look_does_not_hold(self):
        view = Keep(YOUNG)
        source = [person(1), person(4, age=50)]
        self.refuses(view, PEOPLE, source, [person(1, age=30)], [0])
        self.refuses(view, PEOPLE, source, [person(1), person(2), person(3, age=31), person(5, age=70)], [2])
        self.refuses(view, PEOPLE, [], [person(1), person(2, age=30)], [1])

    def test_a_row_with_a_hidden_rows_key(self):
        view = Keep(YOUNG)
        source = [person(1), person(4, age=50), person(5, age=50)]
        self.refuses(view, PEOPLE, source, [person(1), person(4)], [1])
        self.refuses(view, PEOPLE, source, [person(4), person(5)], [0])
        self.refuses(view, PEOPLE, source, [person(1), person(2), person(5)], [2])

    def test_the_first_of_both_refusals(self):
        view = Keep(YOUNG)
        source = [person(4, age=50)]
        self.refuses(view, PEOPLE, source, [person(1), person(4), person(5, age=60)], [1])
        self.refuses(view, PEOPLE, source, [person(1), person(3, age=60), person(4)], [1])
        self.refuses(view, PEOPLE, source, source, [0])

    def test_what_does_not_fit_goes_ahead(self):
        view = Keep(YOUNG)
        source = [person(1), person(4, age=50)]
        self.refuses(view, PEOPLE, source, [person(1, age=60), person(4), person(5, 1)], [2, "name"])
        self.refuses(view, PEOPLE, source, [person(4), person(4)], [1])
        self.refuses(view, PEOPLE, source, [person(4), person(3)], [1])
        self.refuses(view, PEOPLE, source, [person(4), person(5, age="5")], [1, "age"])
        self.refuses(view, PEOPLE, source, (person(1),), [])
        self.refuses_what_does_not_fit(view, PEOPLE, source)
        self.refuses_what_does_not_fit(view, BY_NAME, [person(2, "a"), person(1, "b"), person(3, "c", 50)])

    def test_grade_and_keeps(self):
        self.assertEqual(Keep(YOUNG).grade(), "firm")
        self.keeps_just(Keep(YOUNG), [], ["id", "age", "name", "look"])

    def test_laws(self):
        others = [{"name": "a", "age": 20}, {"name": "b", "age": 40}]
        for kind in (PEOPLE, BY_AGE, BY_NAME):
            rows = some_rows(kind, (1, 2), others)
            self.lawful(Keep(YOUNG), kind, rows, rows + [None, [person(1, 1)]])
            self.lawful(Keep(("or", YOUNG, ("same", ("id",), 2))), kind, rows, rows)


class OrderTest(ViewCase):
    def test_made(self):
        self.assertIsInstance(Order("age"), View)
        self.assertEqual(Order("age").by, "age")
        self.assertEqual(Order("").by, "")
        self.assertEqual(Order().by, "")

    def test_behind(self):
        for kind in (PEOPLE, BY_AGE, BY_NAME):
            self.stands(Order(), kind, PEOPLE)
            self.stands(Order(""), kind, PEOPLE)
            self.stands(Order("age"), kind, BY_AGE)
            self.stands(Order("name"), kind, BY_NAME)
        self.stands(Order(""), MIXED, MIXED)

    def test_where_it_does_not_stand(self):
        self.no_view(Order("id"), PEOPLE, [])
        self.no_view(Order("id"), BY_AGE, [])
        self.no_view(Order("none"), PEOPLE, [])
        for name in ("kept", "room", "shape", "tree", "word"):
            self.no_view(Order(name), MIXED, [])
        self.no_view_but(Order(), ["rows"], [])
        self.no_view_but(Order("name"), ["rows"], [])

    def test_see(self):
        source = [person(1, "c", 7), person(2, "b", 9), person(3, "a", 7)]
        self.shows(Order("name"), PEOPLE, source, [source[2], source[1], source[0]])
        self.shows(Order("age"), PEOPLE, source, [source[0], source[2], source[1]])
        self.shows(Order(), PEOPLE, source, source)
        self.shows(Order(), BY_NAME, [source[2], source[1], source[0]], source)
        self.shows(Order("age"), BY_NAME, [source[2], source[1], source[0]], [source[0], source[2], source[1]])
        for view in (Order(), Order("age"), Order("name")):
            self.shows(view, BY_AGE, [], [])
            self.shows(view, BY_AGE, [person(1)], [person(1)])

    def test_put(self):
        source = [person(1, "c", 7), person(2, "b", 9)]
        self.puts(Order("name"), PEOPLE, source, [person(9, "a"), person(3, "b"), person(4, "b")],
                  [person(3, "b"), person(4, "b"), person(9, "a")])
        self.puts(Order("name"), PEOPLE, source, [], [])
        self.puts(Order(), BY_AGE, [source[0]], [person(1, "", 9), person(2, "", 3)],
                  [person(2, "", 3), person(1, "", 9)])
        self.puts(Order("age"), BY_NAME, [], [person(2, "b", -1), person(1, "c", 0), person(3, "a", 0)],
                  [person(3, "a", 0), person(2, "b", -1), person(1, "c", 0)])

    def test_refusals(self):
        source = [person(1, "c", 7), person(2, "b", 9)]
        self.refuses(Order("name"), PEOPLE, source, source, [1])
        self.refuses(Order(), BY_AGE, source, [person(2, "", 3), person(1, "", 9)], [1])
        self.refuses(Order("age"), PEOPLE, source, [person(1, "", 3), person(1, "", 9)], [1])
        self.refuses(Order("age"), PEOPLE, source, [person(1, "", 3), person(1, 0, 9)], [1, "name"])
        self.refuses_what_does_not_fit(Order("name"), PEOPLE, source)

    def test_grade_and_keeps(self):
        for view in (Order(), Order("age")):
            self.assertEqual(view.grade(), "full")
            self.keeps_just(view, [], ["id", "age", "name", ""])

    def test_laws(self):
        others = [{"name": "a", "age": 2}, {"name": "b", "age": 1}]
        rows = some_rows(PEOPLE, (1, 2, 3), others)[::2]
        by_age = some_rows(BY_AGE, (1, 2, 3), others)[::2]
        self.lawful(Order("age"), PEOPLE, rows[:9], rows[5:12] + by_age[5:12])
        self.lawful(Order("name"), BY_AGE, by_age[:9], rows[5:12] + by_age[5:12])
        self.lawful(Order(), BY_AGE, by_age[:9], rows[5:12] + by_age[5:12])


class Refusing(View):
    """As the plain view, but one name is refused."""

    def put(self, kind, source, seen):
        if seen["name"] == "bad":
            raise CantPut(["name", 0])
        return seen


class Remembering(View):
    """Keeps by itself what sources it was put on."""

    def __init__(self):
        self.sources = []

    def put(self, kind, source, seen):
        self.sources.append((kind, copy.deepcopy(source)))
        return seen


class Keeping(View):
    """Shows a record as it is, and says that it keeps just some names."""

    def __init__(self, names):
        self.names = names

    def keeps(self, name):
        return name in self.names


class EachTest(ViewCase):
    def test_made(self):
        inner = Take(["id"])
        view = Each(inner)
        self.assertIsInstance(view, View)
        self.assertIs(view.inner, inner)

    def test_behind(self):
        self.stands(Each(View()), BY_AGE, BY_AGE)
        self.stands(Each(Take(["id"])), PEOPLE, rows_of("id", "", [("id", N)]))
        self.stands(Each(Take(["name", "id"])), BY_NAME, rows_of("id", "name", [("name", W), ("id", N)]))
        self.stands(Each(Rename("age", "zeal")), BY_NAME, rows_of("id", "name", [("id", N), ("name", W), ("zeal", N)]))
        self.stands(Each(Nest(["age"], "room")), PEOPLE,
                    rows_of("id", "", [("id", N), ("name", W), ("room", record_of([("age", N)]))]))
        self.stands(Each(Chain([Take(["id", "age"]), Within("age", Shift(1))])), PEOPLE,
                    rows_of("id", "", [("id", N), ("age", N)]))
        self.stands(Each(Unnest("room")), MIXED, rows_of("word", "", ODD[:1] + ODD[2:] + [("high", N), ("wide", N)]))

    def test_where_it_does_not_stand(self):
        self.no_view_but(Each(View()), ["rows"], [])
        self.no_view(Each(Take(["none"])), PERSON, [])
        self.no_view(Each(Take(["id", "none"])), PEOPLE, ["row"])
        self.no_view(Each(Shift(1)), PEOPLE, ["row", "shift"])
        self.no_view(Each(Chain([View(), Take(["none"])])), PEOPLE, ["row", 1])
        self.no_view(Each(Within("name", Shift(1))), PEOPLE, ["row", "name", "shift"])
        self.no_view(Each(At("id")), PEOPLE, [])
        self.no_view(Each(Take(["age", "name"])), PEOPLE, [])
        self.no_view(Each(Rename("id", "key")), PEOPLE, [])
        self.no_view(Each(Within("id", View())), PEOPLE, [])
        self.no_view(Each(Take(["id", "age"])), BY_NAME, [])
        self.no_view(Each(Take(["name"])), BY_NAME, [])
        self.no_view(Each(Within("age", Shift(1))), BY_AGE, [])
        self.no_view(Each(Take([])), PEOPLE, [])
        self.no_view(Each(Each(View())), PEOPLE, ["row"])

    def test_what_the_inner_view_is_asked_to_keep(self):
        self.stands(Each(Keeping(["id"])), PEOPLE, PEOPLE)
        self.stands(Each(Keeping(["id", "age"])), BY_AGE, BY_AGE)
        self.no_view(Each(Keeping(["id"])), BY_AGE, [])
        self.no_view(Each(Keeping(["age", "", "name"])), BY_AGE, [])
        self.no_view(Each(Keeping(["age", "name", ""])), PEOPLE, [])

    def test_a_record_kind_is_wanted(self):
        class Alone(At):
            def keeps(self, name):
                return True

        self.no_view(Each(Alone("id")), PEOPLE, [])
        self.no_view(Each(Alone("kept")), MIXED, [])
        self.stands(Each(Alone("room")), rows_of("high", "", [("high", N), ("room", ROOM)]), rows_of("high", "", ROOM[1]))

    def test_see(self):
        view = Each(Take(["id", "name"]))
        self.shows(view, PEOPLE, [], [])
        self.shows(view, PEOPLE, [person(1, "a")], [{"id": 1, "name": "a"}])
        self.shows(view, BY_NAME, [person(2, "a"), person(1, "b")], [{"id": 2, "name": "a"}, {"id": 1, "name": "b"}])
        self.shows(Each(Within("age", Shift(5))), PEOPLE, people(1, 2), [person(1, age=25), person(2, age=25)])
        self.shows(Each(Within("kept", Keep(("less", ("tag",), "m")))), MIXED,
                   [mixed("a", ("a", "z")), mixed("b", ("z",))], [mixed("a", ("a",)), mixed("b")])

    def test_put_on_the_row_with_the_same_key(self):
        view = Each(Take(["id", "name"]))
        source = [person(1, "a", 10), person(2, "b", 20), person(3, "c", 30)]
        self.puts(view, PEOPLE, source, [{"id": 1, "name": "x"}, {"id": 3, "name": "c"}],
                  [person(1, "x", 10), person(3, "c", 30)])
        self.puts(view, PEOPLE, source, [], [])
        by_name = [person(3, "a", 10), person(1, "b", 20)]
        self.puts(view, BY_NAME, by_name, [{"id": 1, "name": ""}, {"id": 3, "name": "z"}],
                  [person(1, "", 20), person(3, "z", 10)])

    def test_new_rows(self):
        view = Each(Take(["id", "name"]))
        self.puts(view, PEOPLE, [], [{"id": 7, "name": "n"}], [person(7, "n", 0)])
        self.puts(view, PEOPLE, people(1), [{"id": 0, "name": "n"}, {"id": 1, "name": "m"}],
                  [person(0, "n", 0), person(1, "m", 20)])
        self.puts(Each(Take(["word"])), MIXED, [mixed("a", ("t",))], [{"word": "b"}], [{
            "word": "b", "kept": [], "room": {"high": 0, "wide": 0}, "shape": ("dot", 0), "tree": (0, []),
        }])

    def test_a_new_row_is_put_on_the_empty_record_but_with_its_key(self):
        inner = Remembering()
        Each(inner).put(BY_NAME, people(1), [person(5, "a", 3), person(1, "b", 4)])
        self.assertEqual(inner.sources, [(PERSON, {"id": 5, "name": "", "age": 0}), (PERSON, person(1))])
        words = Remembering()
        kind = rows_of("word", "", [("word", W), ("n", N)])
        Each(words).put(kind, [], [{"word": "a", "n": 1}, {"word": "b", "n": 2}])
        self.assertEqual([source for kind, source in words.sources], [{"word": "a", "n": 0}, {"word": "b", "n": 0}])

    def test_new_rows_share_nothing(self):
        view = Each(Take(["word"]))
        new = view.put(MIXED, [], [{"word": "a"}, {"word": "b"}])
        new[0]["kept"].append({"tag": "t"})
        self.assertEqual(new[1]["kept"], [])
        self.assertEqual(view.put(MIXED, [], [{"word": "c"}])[0]["kept"], [])

    def test_the_first_row_whose_inner_put_refuses(self):
        view = Each(Refusing())
        self.refuses(view, PEOPLE, people(1), [person(1), person(2, "bad"), person(3, "bad")], [1, "name", 0])
        self.refuses(view, PEOPLE, people(1), [person(1, "bad")], [0, "name", 0])
        limited = Each(Chain([View(), Within("age", Shift(0, 50))]))
        self.refuses(limited, PEOPLE, [], [person(1), person(2, age=51)], [1, 1, "age", "limit"])
        kept = Each(Within("kept", Keep(("less", ("tag",), "m"))))
        self.refuses(kept, MIXED, [], [mixed("a"), mixed("b", ("a", "z"))], [1, "kept", 1])
        self.refuses(kept, MIXED, [mixed("b", ("x",))], [mixed("b", ("a", "x"))], [0, "kept", 1])

    def test_what_does_not_fit_goes_ahead(self):
        view = Each(Refusing())
        self.refuses(view, PEOPLE, people(1), [person(1, "bad"), person(2, 1)], [1, "name"])
        self.refuses(view, PEOPLE, people(1), [person(1, "bad"), person(1)], [1])
        self.refuses(view, PEOPLE, people(1), {"id": 1}, [])
        self.refuses_what_does_not_fit(Each(Take(["id", "name"])), BY_NAME, [person(3, "a"), person(1, "b")])
        self.refuses_what_does_not_fit(Each(Chain([Take(["id", "name"]), View()])), PEOPLE, people(1, 2))

    def test_grade_and_keeps(self):
        for grade, told in (("full", "full"), ("firm", "loose"), ("loose", "loose")):
            self.assertEqual(Each(Shift(1, worth=grade)).grade(), told)
            self.assertEqual(Each(Chain([View(), Within("a", Shift(1, worth=grade))])).grade(), told)
        self.assertEqual(Each(View()).grade(), "full")
        self.assertEqual(Each(Take(["id"])).grade(), "loose")
        self.keeps_just(Each(View()), [], ["id", "age", "name"])

    def test_laws(self):
        others = [{"name": "a", "age": 0}, {"name": "b", "age": 4}]
        for kind in (PEOPLE, BY_NAME):
            rows = some_rows(kind, (1, 2), others)
            for inner in (View(), Rename("age", "zeal"), Within("age", Shift(-3, 3)), Chain([])):
                shown = [Each(inner).see(kind, source) for source in rows]
                self.lawful(Each(inner), kind, rows, rows + shown)

    def test_put_twice_with_a_firm_inner_view(self):
        tags = [{"kept": [{"tag": tag} for tag in word]} for word in ("", "a", "z", "az")]
        kind = rows_of("id", "", [("id", N), ("kept", TAGS)])
        rows = some_rows(kind, (1, 2), tags)
        view = Each(Within("kept", Keep(("less", ("tag",), "m"))))

        def promised(source, first, second):
            wanted = {row["id"] for row in source} & {row["id"] for row in second}
            return wanted <= {row["id"] for row in first}

        counts = self.asked_twice(view, kind, rows[::2], rows, promised)
        self.assertGreater(counts[False], 0)
        self.lawful(view, kind, rows[::3], rows[::2])

    def test_put_twice_with_take(self):
        others = [{"name": "a", "age": 0}, {"name": "b", "age": 4}]
        rows = some_rows(PEOPLE, (1, 2, 3), others)
        for names in (["id"], ["id", "name"], ["age", "id"], ["id", "age", "name"]):
            view = Each(Take(names))
            seens = [view.see(PEOPLE, source) for source in rows]

            def empty_but(row):
                return all(row[name] in (0, "") for name in row if name not in names)

            def promised(source, first, second):
                firsts = [row["id"] for row in first]
                seconds = [row["id"] for row in second]
                return all(empty_but(row) for row in source if row["id"] in seconds and row["id"] not in firsts)

            counts = self.asked_twice(view, PEOPLE, rows[::3], seens[::2], promised)
            self.assertEqual(counts[True], 0)


class BesideTest(ViewCase):
    def beside(self, rows, total):
        return {"rows": rows, "total": total}

    def test_made(self):
        view = Beside("age", "r", "t")
        self.assertIsInstance(view, View)
        self.assertEqual((view.field, view.rows, view.total), ("age", "r", "t"))

    def test_behind_in_the_order_of_names(self):
        self.stands(Beside("age", "r", "t"), BY_NAME, ("record", (("r", BY_NAME), ("t", N))))
        self.stands(Beside("age", "t", "r"), PEOPLE, ("record", (("r", N), ("t", PEOPLE))))
        self.stands(Beside("id", "id", "age"), PEOPLE, ("record", (("age", N), ("id", PEOPLE))))

    def test_where_it_does_not_stand(self):
        self.no_view(Beside("name", "r", "t"), PEOPLE, [])
        self.no_view(Beside("none", "r", "t"), PEOPLE, [])
        for name in ("kept", "room", "shape", "tree", "word"):
            self.no_view(Beside(name, "r", "t"), MIXED, [])
        self.no_view(Beside("age", "r", "r"), PEOPLE, [])
        self.no_view(Beside("age", "age", "age"), PEOPLE, [])
        self.no_view_but(Beside("id", "r", "t"), ["rows"], [])

    def test_see(self):
        view = Beside("age", "rows", "total")
        self.shows(view, PEOPLE, [], self.beside([], 0))
        self.shows(view, PEOPLE, [person(1, age=7)], self.beside([person(1, age=7)], 7))
        source = [person(1, age=7), person(2, age=-20), person(3, age=5)]
        self.shows(view, PEOPLE, source, self.beside(source, -8))
        self.shows(Beside("id", "rows", "total"), PEOPLE, source, self.beside(source, 6))
        big = [person(1, age=10 ** 60 - 1), person(2, age=10 ** 60 - 1)]
        self.shows(view, PEOPLE, big, self.beside(big, 2 * 10 ** 60 - 2))

    def test_put(self):
        view = Beside("age", "rows", "total")
        self.puts(view, PEOPLE, people(1, 2), self.beside(people(4), 20), people(4))
        self.puts(view, PEOPLE, people(1, 2), self.beside([], 0), [])
        new = [person(1, age=-7), person(3, age=3)]
        self.puts(view, PEOPLE, [], self.beside(new, -4), new)

    def test_a_wrong_total(self):
        view = Beside("age", "rows", "total")
        self.refuses(view, PEOPLE, people(1, 2), self.beside(people(1, 2), 41), ["total"])
        self.refuses(view, PEOPLE, people(1, 2), self.beside(people(1), 40), ["total"])
        self.refuses(view, PEOPLE, people(1, 2), self.beside([], 40), ["total"])
        self.refuses(view, PEOPLE, [], self.beside([person(1, age=-3)], 3), ["total"])
        self.refuses(Beside("age", "x", "y"), PEOPLE, [], {"x": [], "y": 1}, ["y"])

    def test_what_does_not_fit_goes_ahead(self):
        view = Beside("age", "rows", "total")
        self.refuses(view, PEOPLE, people(1), self.beside([person(1, age="1")], 20), ["rows", 0, "age"])
        self.refuses(view, PEOPLE, people(1), self.beside([person(1), person(2, 2)], 7), ["rows", 1, "name"])
        self.refuses(view, PEOPLE, people(1), self.beside([person(1, age=1)], True), ["total"])
        self.refuses(view, PEOPLE, people(1), people(1), [])
        self.refuses_what_does_not_fit(view, BY_NAME, [person(3, "a"), person(1, "b")])

    def test_grade_and_keeps(self):
        self.assertEqual(Beside("age", "rows", "total").grade(), "full")
        self.keeps_just(Beside("age", "rows", "total"), [], ["age", "rows", "total", "name"])

    def test_laws(self):
        rows = some_rows(PEOPLE, (1, 2), [{"name": "a", "age": 1}, {"name": "b", "age": -1}])
        seens = [self.beside(seen, total) for seen in rows for total in (-1, 0, 2)]
        self.lawful(Beside("age", "rows", "total"), PEOPLE, rows, seens[::2] + [self.beside([], True), {}])


class GroupTest(ViewCase):
    def test_made(self):
        view = Group("name", "them")
        self.assertIsInstance(view, View)
        self.assertEqual((view.field, view.into), ("name", "them"))

    def test_behind(self):
        inner = rows_of("id", "", [("age", N), ("id", N)])
        self.stands(Group("name", "them"), PEOPLE, rows_of("name", "", [("name", W), ("them", inner)]))
        self.stands(Group("name", "a"), PEOPLE, ("rows", "name", "", (("a", inner), ("name", W))))
        self.stands(Group("name", "them"), BY_NAME, rows_of("name", "", [("name", W), ("them", inner)]))
        by_age = rows_of("id", "age", [("age", N), ("id", N)])
        self.stands(Group("name", "them"), BY_AGE, rows_of("name", "", [("name", W), ("them", by_age)]))
        by_name = rows_of("id", "name", [("name", W), ("id", N)])
        self.stands(Group("age", "id"), BY_NAME, rows_of("age", "", [("age", N), ("id", by_name)]))

    def test_where_it_does_not_stand(self):
        self.no_view(Group("id", "them"), PEOPLE, [])
        self.no_view(Group("none", "them"), PEOPLE, [])
        self.no_view(Group("name", "name"), PEOPLE, [])
        for name in ("kept", "room", "shape", "tree", "word"):
            self.no_view(Group(name, "them"), MIXED, [])
        self.no_view_but(Group("name", "them"), ["rows"], [])

    def test_see(self):
        view = Group("name", "them")
        self.shows(view, PEOPLE, [], [])
        self.shows(view, PEOPLE, [person(1, "a", 5)], [{"name": "a", "them": [{"id": 1, "age": 5}]}])
        source = [person(1, "b", 9), person(2, "a", 8), person(3, "b", 7), person(4, "", 6)]
        shown = [
            {"name": "", "them": [{"id": 4, "age": 6}]}, {"name": "a", "them": [{"id": 2, "age": 8}]},
            {"name": "b", "them": [{"id": 1, "age": 9}, {"id": 3, "age": 7}]},
        ]
        self.shows(view, PEOPLE, source, shown)
        by_name = [source[3], source[1], source[0], source[2]]
        self.shows(view, BY_NAME, by_name, shown)
        by_age = [source[3], source[2], source[1], source[0]]
        shown[2]["them"] = [{"id": 3, "age": 7}, {"id": 1, "age": 9}]
        self.shows(view, BY_AGE, by_age, shown)

    def test_numbers_as_groups(self):
        source = [person(1, "b", 10), person(2, "a", 9), person(3, "b", -1), person(4, "c", 9)]
        self.shows(Group("age", "id"), PEOPLE, source, [
            {"age": -1, "id": [{"id": 3, "name": "b"}]},
            {"age": 9, "id": [{"id": 2, "name": "a"}, {"id": 4, "name": "c"}]},
            {"age": 10, "id": [{"id": 1, "name": "b"}]},
        ])

    def test_put(self):
        view = Group("name", "them")
        seen = [
            {"name": "a", "them": [{"id": 3, "age": 1}, {"id": 5, "age": 0}]}, {"name": "b", "them": [{"id": 4, "age": 3}]},
        ]
        told = [person(3, "a", 1), person(4, "b", 3), person(5, "a", 0)]
        self.puts(view, PEOPLE, people(1, 2, 3), seen, told)
        self.puts(view, BY_NAME, [], seen, [told[0], told[2], told[1]])
        self.puts(view, PEOPLE, people(1, 2), [], [])
        seen[0]["them"] = [{"id": 5, "age": 0}, {"id": 3, "age": 1}]
        self.puts(view, BY_AGE, people(1), seen, [told[2], told[0], told[1]])

    def test_a_group_without_rows(self):
        view = Group("name", "them")
        one = {"name": "a", "them": [{"id": 3, "age": 1}]}
        self.refuses(view, PEOPLE, people(1), [one, {"name": "b", "them": []}], [1, "them"])
        self.refuses(view, PEOPLE, people(1), [{"name": "", "them": []}, one, {"name": "b", "them": []}], [0, "them"])

    def test_a_key_in_two_groups(self):
        view = Group("name", "them")
        one = {"name": "a", "them": [{"id": 3, "age": 1}, {"id": 4, "age": 1}]}
        other = {"name": "b", "them": [{"id": 1, "age": 1}, {"id": 3, "age": 1}, {"id": 4, "age": 1}]}
        self.refuses(view, PEOPLE, people(1), [one, other], [1, "them", 1])
        third = {"name": "c", "them": [{"id": 4, "age": 1}]}
        self.refuses(view, PEOPLE, people(1), [one, third], [1, "them", 0])
        second = {"name": "b", "them": [{"id": 1, "age": 1}]}
        self.refuses(view, PEOPLE, people(1), [one, second, third], [2, "them", 0])

    def test_the_first_group_of_both_refusals(self):
        view = Group("name", "them")
        one = {"name": "a", "them": [{"id": 3, "age": 1}]}
        again = {"name": "b", "them": [{"id": 3, "age": 1}]}
        self.refuses(view, PEOPLE, people(1), [one, again, {"name": "c", "them": []}], [1, "them", 0])
        self.refuses(view, PEOPLE, people(1), [one, {"name": "ab", "them": []}, again], [1, "them"])

    def test_what_does_not_fit_goes_ahead(self):
        view = Group("name", "them")
        hollow = {"name": "a", "them": []}
        self.refuses(view, PEOPLE, people(1), [hollow, {"name": "b", "them": [{"id": 1}]}], [1, "them", 0])
        self.refuses(view, PEOPLE, people(1), [hollow, hollow], [1])
        twice = {"name": "b", "them": [{"id": 1, "age": 1}, {"id": 1, "age": 1}]}
        self.refuses(view, PEOPLE, people(1), [hollow, twice], [1, "them", 1])
        self.refuses(view, PEOPLE, people(1), people(1), [0])
        self.refuses_what_does_not_fit(view, BY_AGE, [person(2, "a", 1), person(1, "b", 2), person(3, "a", 3)])

    def test_grade_and_keeps(self):
        self.assertEqual(Group("name", "them").grade(), "full")
        self.keeps_just(Group("name", "them"), [], ["name", "them", "id", "age"])

    def test_laws(self):
        others = [{"name": "a", "age": 2}, {"name": "b", "age": 1}]
        for kind in (PEOPLE, BY_AGE, BY_NAME):
            rows = some_rows(kind, (1, 2, 3), others)
            inner = [[], [{"id": 1, "age": 1}], [{"id": 2, "age": 1}], [{"id": 1, "age": 1}, {"id": 2, "age": 2}]]
            seens = some_rows(("rows", "name", ""), ("a", "b"), [{"them": them} for them in inner])
            self.lawful(Group("name", "them"), kind, rows[::3], seens + [None])


class SizeTest(ViewCase):
    def test_sixty_rows(self):
        rows = [person(key, "ab"[key % 2], key) for key in range(60)]
        self.shows(Keep(YOUNG), PEOPLE, rows, rows[:30])
        self.shows(Beside("age", "rows", "total"), PEOPLE, rows, {"rows": rows, "total": 1770})
        self.assertEqual([len(group["them"]) for group in Group("name", "them").see(PEOPLE, rows)], [30, 30])
        self.puts(Each(View()), PEOPLE, rows, rows[5:], rows[5:])
        self.shows(Order("name"), PEOPLE, rows, rows[::2] + rows[1::2])
        self.assertEqual(outcome(Order("name"), PEOPLE, rows, rows), ("refused", [2]))


if __name__ == "__main__":
    unittest.main()

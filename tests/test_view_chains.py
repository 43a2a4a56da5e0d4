"""Chains of the views of records, rows and trees, and these views with chains in them."""

import copy
import unittest

from viewcase import N, W, ViewCase

from putback.fields import At, Nest, Rename, Take, Unnest, Within
from putback.joins import Join
from putback.kinds import record_of, rows_of
from putback.tables import Beside, Each, Group, Keep, Order
from putback.trees import Boughs, Top, Unroll
from putback.views import Chain

GOODS = rows_of("id", "", [("cost", N), ("id", N), ("kept", N), ("maker", W)])
MAKERS = rows_of("name", "", [("name", W), ("town", W)])
SHOP = record_of([("goods", GOODS), ("makers", MAKERS), ("owner", W)])


def good(key, maker="m", cost=1, kept=5):
    return {"id": key, "maker": maker, "cost": cost, "kept": kept}


def shop():
    return {
        "goods": [good(1, "m", 4), good(2, "x", 5), good(3, "n", 90), good(4, "m", 6)],
        "makers": [{"name": "m", "town": "t"}, {"name": "n", "town": "u"}, {"name": "o", "town": "v"}],
        "owner": "me",
    }


def long_chain():
    cheap = Keep(("less", ("cost",), 50))
    lean = Each(Chain([Take(["id", "cost", "maker", "town"]), Nest(["maker", "town"], "from")]))
    return Chain([
        Join("goods", "makers", "maker"), Within("goods", Chain([cheap, lean, Beside("cost", "goods", "sum")])),
        Unnest("goods"), Rename("owner", "who"),
    ])


def lean(key, maker, town, cost):
    return {"id": key, "cost": cost, "from": {"maker": maker, "town": town}}


def lean_shop(*rows, who="me", total=None):
    real = sum(row["cost"] for row in rows)
    return {"goods": list(rows), "sum": real if total is None else total, "who": who}


class LongChainTest(ViewCase):
    def test_see(self):
        self.shows(long_chain(), SHOP, shop(), lean_shop(lean(1, "m", "t", 4), lean(4, "m", "t", 6)))

    def test_put(self):
        seen = lean_shop(lean(0, "p", "w", 7), lean(4, "m", "s", 8), who="you")
        self.puts(long_chain(), SHOP, shop(), seen, {
            "goods": [good(0, "p", 7, 0), good(2, "x", 5), good(3, "n", 90), good(4, "m", 8)],
            "makers": [
                {"name": "m", "town": "s"}, {"name": "n", "town": "u"}, {"name": "o", "town": "v"}, {"name": "p", "town": "w"},
            ],
            "owner": "you",
        })

    def test_each_steps_refusal(self):
        one = lean(1, "m", "t", 4)
        for seen, way in [
            (lean_shop(one, total=5), [1, "goods", 2, "sum"]),
            (lean_shop(one, lean(5, "m", "t", 50)), [1, "goods", 0, 1]),
            (lean_shop(one, lean(3, "m", "t", 5)), [1, "goods", 0, 1]),
            (lean_shop(one, lean(5, "x", "t", 5)), [0, "goods", 2]),
            (lean_shop(one, lean(2, "m", "t", 5)), [0, "goods", 1]),
            (lean_shop(one, lean(5, "m", "other", 5)), [0, "goods", 2]),
            (lean_shop(one, lean(5, "n", "other", 5)), [0, "goods", 2]),
            (lean_shop(one, {"id": 5, "cost": 0, "from": {"maker": "m"}}), [3, "goods", 1, "from"]),
            (lean_shop(one, one), [3, "goods", 1]),
            ({}, [3]),
        ]:
            self.refuses(long_chain(), SHOP, shop(), seen, way)

    def test_rows(self):
        chain = long_chain()
        seen = lean_shop(lean(4, "m", "s", 8), who="you")
        put_row = chain.put_row(SHOP, shop(), seen)
        self.assertEqual(len(put_row), 5)
        self.assertEqual(put_row, chain.seen_row(SHOP, put_row[0]))
        self.assertEqual(chain.kinds_row(SHOP)[0], SHOP)
        self.assertEqual([kind[0] for kind in chain.kinds_row(SHOP)], ["record"] * 5)
        held = shop()
        self.assertEqual(chain.put_row(SHOP, held, chain.see(SHOP, held)), chain.seen_row(SHOP, held))
        self.assertEqual(held, shop())

    def test_grade_and_keeps(self):
        self.assertEqual(long_chain().grade(), "loose")
        self.keeps_just(long_chain(), ["else"], ["goods", "makers", "owner", "who"])
        self.assertEqual(Chain([Rename("a", "b"), Take(["b"])]).grade(), "firm")
        self.assertEqual(Chain([Rename("a", "b"), Nest(["b"], "c")]).grade(), "full")

    def test_where_it_does_not_stand(self):
        self.no_view(long_chain(), N, [0])
        costless = record_of([("goods", rows_of("id", "", [("id", N), ("maker", W)])), ("makers", MAKERS)])
        self.no_view(long_chain(), costless, [1, "goods", 0, "look"])
        townless = rows_of("name", "", [("name", W)])
        self.no_view(long_chain(), record_of([("goods", GOODS), ("makers", townless)]), [1, "goods", 1, "row", 0])
        self.no_view(long_chain(), record_of([("goods", GOODS), ("makers", MAKERS)]), [3])
        self.no_view(long_chain(), record_of(list(SHOP[1]) + [("sum", N)]), [2])


class NestedTest(ViewCase):
    def test_a_group_of_groups(self):
        kind = rows_of("id", "", [("a", N), ("b", W), ("id", N)])
        chain = Chain([Group("a", "in"), Each(Within("in", Group("b", "in")))])
        source = [{"id": 1, "a": 5, "b": "x"}, {"id": 2, "a": 4, "b": "y"}, {"id": 3, "a": 5, "b": "w"}]
        self.shows(chain, kind, source, [
            {"a": 4, "in": [{"b": "y", "in": [{"id": 2}]}]},
            {"a": 5, "in": [{"b": "w", "in": [{"id": 3}]}, {"b": "x", "in": [{"id": 1}]}]},
        ])
        self.assertEqual(chain.grade(), "full")
        self.refuses(chain, kind, source, [{"a": 4, "in": [{"b": "y", "in": []}]}], [1, 0, "in", 0, "in"])
        self.refuses(chain, kind, source, [{"a": 4, "in": []}], [0, 0, "in"])
        self.refuses(chain, kind, source, [
            {"a": 4, "in": [{"b": "y", "in": [{"id": 2}]}]}, {"a": 5, "in": [{"b": "y", "in": [{"id": 1}, {"id": 2}]}]},
        ], [0, 1, "in", 1])

    def test_a_tree_of_rows_in_a_record(self):
        rows = rows_of("id", "", [("id", N), ("n", N)])
        kind = record_of([("t", ("tree", rows))])
        view = Within("t", Chain([Boughs(Chain([Order("n"), Keep(("less", ("id",), 5))])), Unroll("at", "deep", "k")]))
        source = {"t": ([{"id": 1, "n": 9}, {"id": 2, "n": 8}], [([{"id": 7, "n": 1}], [])])}
        self.shows(view, kind, source, {"t": [
            {"at": 0, "deep": 0, "k": [{"id": 2, "n": 8}, {"id": 1, "n": 9}]}, {"at": 1, "deep": 1, "k": []},
        ]})
        self.assertEqual(view.grade(), "loose")
        self.puts(view, kind, source, {"t": [{"at": 0, "deep": 0, "k": []}, {"at": 1, "deep": 1, "k": [{"id": 3, "n": 0}]}]},
                  {"t": ([], [([{"id": 3, "n": 0}, {"id": 7, "n": 1}], [])])})
        self.refuses(view, kind, source, {"t": [{"at": 0, "deep": 0, "k": []}, {"at": 1, "deep": 1, "k": [{"id": 7, "n": 0}]}]},
                     ["t", 0, 0, "knot", 1, 0])

    def test_ten_views_deep(self):
        view = Keep(("less", ("v",), 5))
        kind = rows_of("v", "", [("v", N)])
        good_seen, bad_seen, way = [{"v": 1}], [{"v": 1}, {"v": 9}], [1]
        for number in range(3):
            kind = rows_of("id", "", [("id", N), ("in", record_of([("t", ("tree", kind))]))])
            view = Each(Chain([Within("in", Chain([Within("t", Boughs(Chain([view])))]))]))
            good_seen = [{"id": 3, "in": {"t": (good_seen, [])}}]
            bad_seen = [{"id": 3, "in": {"t": (good_seen[0]["in"]["t"][0], [(bad_seen, [])])}}]
            way = [0, 0, "in", 0, "t", 0, "knot", 0] + way
        self.puts(view, kind, [], good_seen, good_seen)
        self.puts(view, kind, good_seen, [], [])
        self.refuses(view, kind, good_seen, bad_seen, way)

    def test_an_empty_chain_within(self):
        kind = record_of([("a", N), ("b", W)])
        self.stands(Within("a", Chain([])), kind, kind)
        self.puts(Within("a", Chain([])), kind, {"a": 1, "b": ""}, {"a": 2, "b": "x"}, {"a": 2, "b": "x"})
        self.refuses(Within("a", Chain([])), kind, {"a": 1, "b": ""}, {"a": "", "b": "x"}, ["a"])

    def test_steps_of_an_inner_chain_changed_later(self):
        steps = [At("x")]
        view = Within("a", Chain(steps))
        kind = record_of([("a", record_of([("x", N)]))])
        steps[0] = At("y")
        self.shows(view, kind, {"a": {"x": 1}}, {"a": 1})


class SourceTest(ViewCase):
    def test_a_source_changed_later_is_seen_as_it_is_then(self):
        source = shop()
        chain = long_chain()
        before = copy.deepcopy(chain.see(SHOP, source))
        source["goods"].pop()
        source["owner"] = "you"
        self.assertNotEqual(chain.see(SHOP, source), before)
        self.shows(chain, SHOP, source, lean_shop(lean(1, "m", "t", 4), who="you"))

    def test_one_view_on_several_kinds(self):
        view = Take(["a"])
        for kind, one, other in ((N, 1, 2), (W, "p", "q"), (GOODS, [], [good(1)])):
            self.puts(view, record_of([("a", kind), ("b", N)]), {"a": one, "b": 1}, {"a": other}, {"a": other, "b": 1})
        for kind, value in ((N, 1), (W, "p"), (GOODS, [good(1)])):
            self.shows(Top(), ("tree", kind), (value, [(value, [])]), value)


if __name__ == "__main__":
    unittest.main()

"""A pool of views of every class, and of kinds with sources, which several tests make chains of."""

from viewcase import N, W

from putback.choices import Case, Choose
from putback.errors import NoView
from putback.fields import At, Nest, Rename, Take, Unnest, Within
from putback.joins import Join
from putback.kinds import either_of, kind_at, record_of, rows_of
from putback.tables import Beside, Each, Group, Keep, Order
from putback.trees import Boughs, Top, Unroll
from putback.values import empty, in_order, misfit
from putback.views import Chain, View

FIELDS = [("id", N), ("n", N), ("w", W)]
PAIR = record_of([("n", N), ("w", W)])
ROWS = rows_of("id", "", FIELDS)
BY_WORD = rows_of("id", "w", FIELDS)
RIGHTS = rows_of("w", "", [("w", W), ("x", N)])
LINKED = record_of([("left", ROWS), ("n", N), ("right", RIGHTS)])
TREE = ("tree", PAIR)
SHAPE = either_of([("a", PAIR), ("b", N), ("c", ROWS)])
NEST = record_of([("id", N), ("in", PAIR), ("shape", SHAPE), ("tree", TREE)])


def row(key, n=1, w="p"):
    return {"id": key, "n": n, "w": w}


def pair(n, w="p"):
    return {"n": n, "w": w}


def right(w, x=1):
    return {"w": w, "x": x}


SOURCES = [
    (PAIR, [pair(1), pair(7, "q"), pair(0, "")]),
    (ROWS, [[], [row(1), row(2, 7, "q")], [row(2, 4, "q"), row(3, 9, "p"), row(4, 4, "p")]]),
    (BY_WORD, [[], [row(3, 9, "p"), row(4, 4, "p"), row(2, 4, "q")]]),
    (LINKED, [
        {"left": [], "n": 3, "right": []},
        {"left": [row(1, 1, "p"), row(2, 7, "q"), row(3, 8, "r"), row(4, 2, "p")], "n": 8, "right": [right("p"), right("q", 2), right("z", 3)]},
    ]),
    (TREE, [(pair(1), []), (pair(7, "q"), [(pair(2, "r"), [(pair(9), [])]), (pair(3), [])])]),
    (SHAPE, [("a", pair(1)), ("b", 7), ("c", [row(1, 4), row(2, 7, "q")]), ("a", pair(8, "q"))]),
    (NEST, [{
        "id": 4, "in": pair(6, "r"), "shape": ("a", pair(2)), "tree": (pair(3), [(pair(8, "q"), [])]),
    }, {
        "id": 9, "in": pair(2, "p"), "shape": ("c", [row(1, 8)]), "tree": (pair(3), []),
    }]),
]

FEW = ("less", ("n",), 5)
SAME = ("same", ("w",), "p")
VIEWS = [
    View(), Chain([]), Chain([View(), Take(["n"])]), Take(["n", "w"]), Take(["left", "right"]), Rename("n", "m"), Rename("left", "in"),
    Nest(["n", "w"], "in"), Nest(["n"], "n"), Unnest("in"), Unnest("n"), At("in"), At("left"), At("n"), At("shape"),
    Within("in", Take(["n"])), Within("left", Keep(FEW)), Within("tree", Boughs(At("n"))), Within("shape", Case("a", At("w"))),
    Keep(FEW), Keep(("not", SAME)), Order("w"), Order(), Each(Take(["id", "n", "w"])), Each(Chain([Take(["id", "w"])])), Each(Rename("n", "m")),
    Beside("n", "left", "right"), Beside("id", "in", "n"), Group("w", "in"), Group("n", "left"), Join("left", "right", "w"),
    Top(), Boughs(Take(["n"])), Boughs(Choose(FEW, At("n"), At("n"))), Boughs(View()), Unroll("id", "n", "w"), Unroll("at", "deep", "in"),
    Case("a", Take(["n"])), Case("b", View()), Case("c", Keep(FEW)), Choose(FEW, View(), Within("n", View())),
    Choose(("some", ()), View(), Chain([])), Choose(("is", (), "b"), Case("a", At("n")), Case("a", Chain([Rename("n", "m"), At("m")]))),
    Choose(("or", SAME, FEW), At("n"), Chain([Take(["n"]), At("n")])),
]


def picked(things, count):
    """At most so many of them, from all over."""
    return things if len(things) <= count else [things[number * len(things) // count] for number in range(count)]


def changed(kind, value):
    """Some other values of the kind, near this one."""
    form = kind[0]
    if form == "number":
        return [value + 1, 4, 11]
    if form == "word":
        return [value + "k", "p", "q"]
    if form == "record":
        return [{**value, name: part} for name, inner in kind[1] for part in changed(inner, value[name])]
    if form == "rows":
        return changed_rows(kind, value)
    if form == "tree":
        arms = [(value[0], value[1][:-1]), (value[0], value[1] + [(value[0], [])]), (value[0], value[1] + [empty(kind)])]
        inner = [(value[0], [arm] + value[1][1:]) for arm in changed(kind, value[1][0])] if value[1] else []
        return [(part, value[1]) for part in changed(kind[1], value[0])] + arms + inner
    others = [(name, empty(inner)) for name, inner in kind[1] if name != value[0]]
    return [(value[0], part) for part in changed(kind_at(kind[1], value[0]), value[1])] + others


def changed_rows(kind, rows):
    told = [[], rows[1:], rows[:-1]]
    key = kind_at(kind[3], kind[1])
    fresh = empty(("record", kind[3]))
    told.append([other for other in rows if other[kind[1]] != fresh[kind[1]]] + [fresh])
    for number, held in enumerate(rows):
        others = rows[:number] + rows[number + 1:]
        told.extend([others + [part] for part in changed(("record", kind[3]), held)])
        told.append(rows + [{**held, kind[1]: changed(key, held[kind[1]])[2]}])
    told = [in_order(kind, rows) for rows in told]
    return [rows for rows in told if misfit(kind, rows) is None]


def seen_values(view, kind, sources, count):
    behind = view.behind(kind)
    told = [view.see(kind, source) for source in sources]
    near = [value for shown in told for value in changed(behind, shown)]
    return [value for value in told + picked(near, count) if misfit(behind, value) is None]


def chains(kind, views, length):
    """All chains up to the length that stand on the kind, and those of which just the last step does not stand."""
    reached = [([], kind)]
    while reached:
        steps, behind = reached.pop()
        for view in views:
            try:
                told = view.behind(behind)
            except NoView as e:
                yield steps + [view], [len(steps)] + e.way
                continue
            yield steps + [view], None
            if len(steps) + 1 < length:
                reached.append((steps + [view], told))

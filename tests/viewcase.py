"""What the tests of views share: how a view is asked, and that nothing handed in is changed by it."""

import copy
import unittest

from putback.errors import CantPut, NoView, ViewError
from putback.kinds import either_of, record_of, rows_of
from putback.values import misfit
from putback.views import Chain, View

N = ("number",)
W = ("word",)

ROW = record_of([("id", N), ("name", W)])
ROWS = rows_of("id", "", [("id", N), ("name", W)])
ONE_OF_EACH = [N, W, record_of([]), ROW, ROWS, ("tree", N), ("tree", ROWS), either_of([("id", N), ("name", W)])]

THINGS = [None, True, 7, "x", [], (), {}, [None], (1, []), ("id", 1), {"zz": 1}]


class Shift(View):
    """A number, greater by some; what is greater than the limit is refused. Its grade is as told."""

    def __init__(self, by, limit=1000, worth="full"):
        self.by, self.limit, self.worth = by, limit, worth

    def behind(self, kind):
        if kind != N:
            raise NoView(["shift"])
        return kind

    def see(self, kind, source):
        return source + self.by

    def put(self, kind, source, seen):
        place = misfit(N, seen)
        if place is not None:
            raise CantPut(place)
        if seen > self.limit:
            raise CantPut(["limit"])
        return seen - self.by

    def grade(self):
        return self.worth


def outcome(view, kind, source, seen):
    try:
        return ("new", view.put(kind, source, seen))
    except CantPut as e:
        return ("refused", e.way)


def spoiled(value):
    """The value with a thing of another kind somewhere, a name more or fewer, an item more or fewer."""
    told = list(THINGS)
    if isinstance(value, dict):
        told.append({**value, "zz": 1})
        for name in value:
            told.append({other: value[other] for other in value if other != name})
            told.extend([{**value, name: part} for part in spoiled(value[name])])
    if isinstance(value, (list, tuple)):
        told.append(value[1:])
        told.append(value[:1] + value)
        told.append(value[::-1])
        told.append(list(value) if isinstance(value, tuple) else tuple(value))
        for number, item in enumerate(value):
            for part in spoiled(item):
                told.append(value[:number] + type(value)([part]) + value[number + 1:])
    return told


class ViewCase(unittest.TestCase):
    def stands(self, view, kind, behind):
        self.assertEqual(view.behind(kind), behind)
        if isinstance(view, Chain):
            self.assertEqual(view.kinds_row(kind)[-1], behind)

    def no_view(self, view, kind, way):
        with self.assertRaises(NoView) as caught:
            view.behind(kind)
        self.assertIsInstance(caught.exception.way, list)
        self.assertEqual(caught.exception.way, way)

    def no_view_but(self, view, forms, way):
        """Of one kind of each form the view stands on none but those of the forms named."""
        for kind in ONE_OF_EACH:
            if kind[0] not in forms:
                self.no_view(view, kind, way)

    def shows(self, view, kind, source, seen):
        self.assertIsNone(misfit(kind, source))
        held = copy.deepcopy(source)
        told = view.see(kind, source)
        self.assertEqual(told, seen)
        self.assertIsNone(misfit(view.behind(kind), told))
        self.assertEqual(view.put(kind, source, told), held)
        self.assertEqual(source, held)

    def puts(self, view, kind, source, seen, new):
        self.assertIsNone(misfit(kind, source))
        self.assertIsNone(misfit(view.behind(kind), seen))
        held = copy.deepcopy((source, seen))
        told = view.put(kind, source, seen)
        self.assertEqual(told, new)
        self.assertIsNone(misfit(kind, told))
        self.assertEqual(view.see(kind, told), held[1])
        self.assertEqual((source, seen), held)

    def refuses(self, view, kind, source, seen, way):
        held = copy.deepcopy((source, seen))
        with self.assertRaises(CantPut) as caught:
            view.put(kind, source, seen)
        self.assertIsInstance(caught.exception.way, list)
        self.assertEqual(caught.exception.way, way)
        self.assertEqual((source, seen), held)
        # A good put behind a refused one is done.
        self.assertEqual(view.put(kind, source, view.see(kind, source)), held[0])

    def refuses_what_does_not_fit(self, view, kind, source):
        behind = view.behind(kind)
        places = []
        for bad in spoiled(view.see(kind, source)):
            place = misfit(behind, bad)
            if place is not None:
                self.refuses(view, kind, source, bad, place)
                places.append(place)
        self.assertIn([], places)

    def keeps_just(self, view, names, others):
        for name in names:
            self.assertIs(view.keeps(name), True, name)
        for name in others:
            self.assertIs(view.keeps(name), False, name)

    def lawful(self, view, kind, sources, seens):
        """[16] to [18] over all these sources and seen values; what the grade promises, too."""
        behind = view.behind(kind)
        seens = seens + [view.see(kind, source) for source in sources]
        for source in sources:
            self.assertIsNone(misfit(kind, source))
            held = copy.deepcopy(source)
            self.assertIsNone(misfit(behind, view.see(kind, source)))
            self.assertEqual(view.put(kind, source, view.see(kind, source)), held)
            for seen in seens:
                self.lawful_put(view, kind, source, seen)
        if view.grade() == "full":
            for seen in seens:
                told = [outcome(view, kind, source, seen) for source in sources]
                self.assertEqual(told, told[:1] * len(told))
        self.asked_twice(view, kind, sources, seens, lambda source, first, second: view.grade() != "loose")

    def lawful_put(self, view, kind, source, seen):
        held = copy.deepcopy((source, seen))
        told, thing = outcome(view, kind, source, seen)
        self.assertEqual((source, seen), held)
        if misfit(view.behind(kind), seen) is not None:
            self.assertEqual((told, thing), ("refused", misfit(view.behind(kind), seen)))
        if told == "new":
            self.assertIsNone(misfit(kind, thing))
            self.assertEqual(view.see(kind, thing), held[1])

    def asked_twice(self, view, kind, sources, seens, promised):
        """Put twice is as once wherever it is promised. Tells where it is not promised: how often it is, and is not."""
        counts = {True: 0, False: 0}
        for source in sources:
            told_once = [outcome(view, kind, source, seen) for seen in seens]
            for first, (told, new) in zip(seens, told_once):
                if told == "refused":
                    continue
                for second, once in zip(seens, told_once):
                    same = outcome(view, kind, new, second) == once
                    if promised(source, first, second):
                        self.assertTrue(same, (source, first, second))
                    else:
                        counts[same] += 1
        return counts


def told_or_refused(ask, *given):
    """What is told, or the refusal's class with what it tells: its way, its number, its place."""
    try:
        return ("told", ask(*given))
    except ViewError as e:
        return (e.__class__.__name__, list(vars(e).values()))

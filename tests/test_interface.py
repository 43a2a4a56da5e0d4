"""The interface as a whole: each name is there, with its arguments and its fields."""

import importlib
import inspect
import unittest

from putback.views import View

FUNCTIONS = {
    "kinds": ["record_of(pairs)", "either_of(pairs)", "rows_of(key, by, pairs)", "kind_at(fields, name)", "is_plain(kind)"],
    "values": ["misfit(kind, value)", "empty(kind)", "copied(kind, value)", "rank(kind, row)", "in_order(kind, rows)"],
    "papers": ["done(kind, paper, value)", "between(kind, old, new)", "turned(kind, paper, value)"],
    "looks": ["unsound(look, kind)", "holds(look, value)"],
    "views": ["worse(one, other)"],
    "kindnotes": ["read_kind(text)", "written_kind(kind)", "read_value(kind, text)", "written_value(kind, value)"],
    "viewnotes": ["read_view(text)", "read_look(text)", "written_view(view)", "written_look(look)"],
    "carry": ["carried_on(view, kind, source, paper)", "carried_back(view, kind, source, paper)",
              "rows_on(chain, kind, source, paper)", "rows_back(chain, kind, source, paper)", "steps_back(view, kind, source, paper)"],
    "asks": ["looked_at(kind_text, view_text)", "seen_text(kind_text, view_text, source_text)",
             "put_text(kind_text, view_text, source_text, seen_text)"],
}

VIEWS = {
    "views": ["View()", "Chain(steps)"],
    "fields": ["Take(names)", "Rename(old, new)", "Nest(names, into)", "Unnest(field)", "Within(field, inner)", "At(name)"],
    "tables": ["Keep(look)", "Order(by='')", "Each(inner)", "Beside(field, rows, total)", "Group(field, into)"],
    "joins": ["Join(left, right, link)"],
    "trees": ["Top()", "Boughs(inner)", "Unroll(at, deep, knot)"],
    "choices": ["Case(name, inner)", "Choose(look, yes, no)"],
}

METHODS = ["behind(self, kind)", "see(self, kind, source)", "put(self, kind, source, seen)", "grade(self)", "keeps(self, name)"]
CHAIN_METHODS = ["kinds_row(self, kind)", "seen_row(self, kind, source)", "put_row(self, kind, source, seen)"]
DESK_METHODS = ["hang(self, name, view)", "take_down(self, name)", "hung(self)", "source_now(self)", "seen_by(self, name)",
                "put_by(self, name, seen)", "change(self, paper)", "undo(self)"]
ERRORS = {"NoKind": [], "NoName": [], "Twice": [], "NoDeed": [], "NoView": ["way"], "CantPut": ["way"], "NoFit": ["way"],
          "NoPaper": ["at"], "NoText": ["place"]}


def module(name):
    return importlib.import_module("putback." + name)


class InterfaceTest(unittest.TestCase):
    def has(self, holder, told):
        name = told.partition("(")[0]
        self.assertEqual(name + str(inspect.signature(vars(holder)[name])), told)

    def test_functions(self):
        for name, functions in FUNCTIONS.items():
            for told in functions:
                self.has(module(name), told)

    def test_views(self):
        for name, classes in VIEWS.items():
            for told in classes:
                self.has(module(name), told)
                self.assertTrue(issubclass(vars(module(name))[told.partition("(")[0]], View))

    def test_fields_of_views(self):
        for name, classes in VIEWS.items():
            for told in classes:
                view = vars(module(name))[told.partition("(")[0]]
                names = list(inspect.signature(view).parameters)
                given = {field: [field] if field in ("names", "steps") else field for field in names}
                self.assertEqual(vars(view(*given.values())), given)
                self.assertEqual(vars(view(**given)), given)
        self.assertEqual(vars(module("tables").Order()), {"by": ""})

    def test_methods(self):
        for name, classes in VIEWS.items():
            for told in classes:
                view = vars(module(name))[told.partition("(")[0]]
                for method in METHODS:
                    called = method.partition("(")[0]
                    self.assertEqual(called + str(inspect.signature(getattr(view, called))), method)
        for method in CHAIN_METHODS:
            self.has(module("views").Chain, method)

    def test_desk(self):
        self.has(module("desk"), "Desk(kind, source=None)")
        for method in DESK_METHODS:
            self.has(module("desk").Desk, method)

    def test_errors(self):
        errors = module("errors")
        self.assertEqual(errors.ViewError.__bases__, (ValueError,))
        for name, fields in ERRORS.items():
            refusal = vars(errors)[name]
            self.assertEqual(refusal.__bases__, (errors.ViewError,))
            made = refusal([5]) if fields == ["way"] else refusal(5)
            self.assertEqual(vars(made), {field: [5] if field == "way" else 5 for field in fields})


if __name__ == "__main__":
    unittest.main()

"""Looks and views in writing: read from texts, and written as texts."""

from putback.choices import Case, Choose
from putback.fields import At, Nest, Rename, Take, Unnest, Within
from putback.joins import Join
from putback.signs import Reader
from putback.tables import Beside, Each, Group, Keep, Order
from putback.trees import Boughs, Top, Unroll
from putback.views import Chain, View

LOOKS = ("less", "same", "is", "some", "not", "and", "or")


def read_look(text):
    reader = Reader(text)
    look = told_look(reader)
    reader.ask_end()
    return look


def told_look(reader):
    form = reader.taken_among(LOOKS)
    if form == "not":
        return (form, told_inner_look(reader))
    if form == "and" or form == "or":
        first = told_inner_look(reader)
        return (form, first, told_inner_look(reader))
    path = tuple(told_names(reader))
    if form == "some":
        return (form, path)
    if form == "is":
        return (form, path, told_name(reader))
    return (form, path, reader.taken("word" if reader.is_of("word") else "number"))


def told_inner_look(reader):
    reader.pass_mark("(")
    look = told_look(reader)
    reader.pass_mark(")")
    return look


def told_name(reader):
    return reader.taken("name")


def told_names(reader):
    return reader.listed("[", "]", told_name)


def name_behind(reader, word):
    reader.taken_among([word])
    return told_name(reader)


def read_view(text):
    reader = Reader(text)
    view = told_chain(reader)
    reader.ask_end()
    return view


def told_chain(reader):
    # A chain reaches to its bracket or to the text's end: where it begins there, it has no step.
    if reader.is_at("end", "") or reader.is_at("mark", ")"):
        return Chain([])
    steps = [told_step(reader)]
    while reader.passed("name", "then"):
        steps.append(told_step(reader))
    return Chain(steps)


def told_inner(reader):
    reader.pass_mark("(")
    chain = told_chain(reader)
    reader.pass_mark(")")
    return chain


def told_step(reader):
    if reader.is_at("mark", "("):
        return told_inner(reader)
    return STEPS[reader.taken_among(list(STEPS))](reader)


def told_same(reader):
    return View()


def told_take(reader):
    return Take(told_names(reader))


def told_rename(reader):
    old = told_name(reader)
    return Rename(old, name_behind(reader, "as"))


def told_nest(reader):
    names = told_names(reader)
    return Nest(names, name_behind(reader, "as"))


def told_unnest(reader):
    return Unnest(told_name(reader))


def told_within(reader):
    field = told_name(reader)
    return Within(field, told_inner(reader))


def told_at(reader):
    return At(told_name(reader))


def told_keep(reader):
    return Keep(told_inner_look(reader))


def told_order(reader):
    reader.pass_mark("[")
    by = "" if reader.is_at("mark", "]") else told_name(reader)
    reader.pass_mark("]")
    return Order(by)


def told_each(reader):
    return Each(told_inner(reader))


def told_beside(reader):
    field = told_name(reader)
    rows = name_behind(reader, "as")
    return Beside(field, rows, name_behind(reader, "with"))


def told_group(reader):
    field = told_name(reader)
    return Group(field, name_behind(reader, "as"))


def told_join(reader):
    left = told_name(reader)
    right = name_behind(reader, "with")
    return Join(left, right, name_behind(reader, "on"))


def told_top(reader):
    return Top()


def told_boughs(reader):
    return Boughs(told_inner(reader))


def told_unroll(reader):
    reader.pass_mark("[")
    at = told_name(reader)
    reader.pass_mark(",")
    deep = told_name(reader)
    reader.pass_mark(",")
    knot = told_name(reader)
    reader.pass_mark("]")
    return Unroll(at, deep, knot)


def told_case(reader):
    name = told_name(reader)
    return Case(name, told_inner(reader))


def told_choose(reader):
    look = told_inner_look(reader)
    yes = told_inner(reader)
    return Choose(look, yes, told_inner(reader))


STEPS = {
    "same": told_same, "take": told_take, "rename": told_rename, "nest": told_nest, "unnest": told_unnest,
    "within": told_within, "at": told_at, "keep": told_keep, "order": told_order, "each": told_each,
    "beside": told_beside, "group": told_group, "join": told_join, "top": told_top, "boughs": told_boughs,
    "unroll": told_unroll, "case": told_case, "choose": told_choose,
}


def written_look(look):
    form = look[0]
    if form == "not":
        return "not " + bracketed_look(look[1])
    if form == "and" or form == "or":
        return form + " " + bracketed_look(look[1]) + " " + bracketed_look(look[2])
    told = form + " " + written_names(look[1])
    if form == "some":
        return told
    if form == "is":
        return told + " " + look[2]
    return told + " " + written_thing(look[2])


def bracketed_look(look):
    return "(" + written_look(look) + ")"


def written_names(names):
    return "[" + ", ".join(names) + "]"


def written_thing(thing):
    return '"' + thing + '"' if isinstance(thing, str) else str(thing)


def written_view(view):
    if not isinstance(view, Chain):
        return written_step(view)
    steps = []
    for step in view.steps:
        steps.append(written_step(step))
    return " then ".join(steps)


def bracketed(view):
    return "(" + written_view(view) + ")"


def written_step(view):
    # First the views that hold looks or other views.
    if isinstance(view, Chain):
        return bracketed(view)
    if isinstance(view, Within):
        return "within " + view.field + " " + bracketed(view.inner)
    if isinstance(view, Keep):
        return "keep " + bracketed_look(view.look)
    if isinstance(view, Each):
        return "each " + bracketed(view.inner)
    if isinstance(view, Boughs):
        return "boughs " + bracketed(view.inner)
    if isinstance(view, Case):
        return "case " + view.name + " " + bracketed(view.inner)
    if isinstance(view, Choose):
        return "choose " + bracketed_look(view.look) + " " + bracketed(view.yes) + " " + bracketed(view.no)
    return written_leaf(view)


def written_leaf(view):
    if isinstance(view, Take):
        return "take " + written_names(view.names)
    if isinstance(view, Rename):
        return "rename " + view.old + " as " + view.new
    if isinstance(view, Nest):
        return "nest " + written_names(view.names) + " as " + view.into
    if isinstance(view, Unnest):
        return "unnest " + view.field
    if isinstance(view, At):
        return "at " + view.name
    if isinstance(view, Order):
        return "order " + written_names([] if view.by == "" else [view.by])
    if isinstance(view, Beside):
        return "beside " + view.field + " as " + view.rows + " with " + view.total
    if isinstance(view, Group):
        return "group " + view.field + " as " + view.into
    if isinstance(view, Join):
        return "join " + view.left + " with " + view.right + " on " + view.link
    if isinstance(view, Top):
        return "top"
    if isinstance(view, Unroll):
        return "unroll " + written_names([view.at, view.deep, view.knot])
    return "same"

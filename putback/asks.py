"""From text to answer: what a view shows of a source and what a put makes of it, all told in texts."""

from putback.errors import NoFit
from putback.kindnotes import read_kind, read_value, written_kind, written_value
from putback.values import misfit
from putback.viewnotes import read_view


def read_source(kind, text):
    source = read_value(kind, text)
    place = misfit(kind, source)
    if place is not None:
        raise NoFit(place)
    return source


def looked_at(kind_text, view_text):
    kind = read_kind(kind_text)
    view = read_view(view_text)
    return (written_kind(view.behind(kind)), view.grade())


def seen_text(kind_text, view_text, source_text):
    kind = read_kind(kind_text)
    view = read_view(view_text)
    # Asked ahead of the source, as a view that does not stand is refused ahead of it.
    behind = view.behind(kind)
    source = read_source(kind, source_text)
    return written_value(behind, view.see(kind, source))


def put_text(kind_text, view_text, source_text, seen_text):
    kind = read_kind(kind_text)
    view = read_view(view_text)
    behind = view.behind(kind)
    source = read_source(kind, source_text)
    seen = read_value(behind, seen_text)
    return written_value(kind, view.put(kind, source, seen))

"""Papers carried through views: on, from the source to what is shown, and back."""

from putback.errors import NoPaper
from putback.papers import between, done


def carried_on(view, kind, source, paper):
    new = done(kind, paper, source)
    return between(view.behind(kind), view.see(kind, source), view.see(kind, new))


def carried_back(view, kind, source, paper):
    seen = done(view.behind(kind), paper, view.see(kind, source))
    return between(kind, source, view.put(kind, source, seen))


def rows_on(chain, kind, source, paper):
    new = done(kind, paper, source)
    return papers_between(chain.kinds_row(kind), chain.seen_row(kind, source), chain.seen_row(kind, new))


def rows_back(chain, kind, source, paper):
    kinds = chain.kinds_row(kind)
    shown = chain.seen_row(kind, source)
    seen = done(kinds[-1], paper, shown[-1])
    return papers_between(kinds, shown, chain.put_row(kind, source, seen))


def papers_between(kinds, old_row, new_row):
    return [between(kind, old_row[number], new_row[number]) for number, kind in enumerate(kinds)]


def steps_back(view, kind, source, paper):
    papers = []
    now = source
    for number, step in enumerate(paper):
        papers.append(step_back(view, kind, now, number, step))
        now = done(kind, papers[number], now)
    return papers


def step_back(view, kind, source, number, step):
    try:
        return carried_back(view, kind, source, [step])
    except NoPaper:
        # The step's number in the paper that it was taken from.
        raise NoPaper(number) from None

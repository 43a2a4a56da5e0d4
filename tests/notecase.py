"""What the tests of texts share: how a text is read, and a slow machine that tells where a text can not be read on."""

import itertools
import re
import unittest

from putback.errors import NoKind, NoText
from putback.kindnotes import read_kind, read_value
from putback.viewnotes import read_look, read_view
from putback.views import View

PIECE = re.compile(r'-?[0-9]+|[a-z]+|"[^"]*"|[{}\[\]()<>:,]')


class NoteCase(unittest.TestCase):
    def no_text(self, read, text, place):
        with self.assertRaises(NoText, msg=text) as caught:
            read(text)
        self.assertEqual(caught.exception.place, place, text)
        self.assertIs(caught.exception.place.__class__, int)

    def no_kind_text(self, text, place):
        self.no_text(read_kind, text, place)

    def no_value_text(self, kind, text, place):
        self.no_text(lambda told: read_value(kind, told), text, place)

    def no_look_text(self, text, place):
        self.no_text(read_look, text, place)

    def no_view_text(self, text, place):
        self.no_text(read_view, text, place)

    def no_kind(self, text):
        with self.assertRaises(NoKind, msg=text):
            read_kind(text)


def pieces_in(text):
    """The pieces of a text that has no fault in it."""
    return PIECE.findall(text)


def spaced(pieces):
    """[43]'s blanks: the text of a kind or a value. Round brackets stand behind an either's name alone in these."""
    text = ""
    for ahead, piece in zip([""] + pieces, pieces):
        joined = ahead in ["", "{", "[", "(", "<"] or piece in [",", ":", "]", "}", ")", ">", "("]
        text += piece if joined else " " + piece
    return text


def spaced_out(pieces):
    """[43]'s blanks: the text of a look or a view, which has no either in it."""
    text = ""
    for ahead, piece in zip([""] + pieces, pieces):
        joined = ahead in ["", "{", "[", "(", "<"] or piece in [",", ":", "]", "}", ")", ">"]
        text += piece if joined else " " + piece
    return text


def tight(pieces):
    """The pieces with a blank only where two of them would run into one."""
    text = ""
    for piece in pieces:
        text += " " + piece if text[-1:].isalnum() and piece[:1].isalnum() else piece
    return text


def told_of(thing):
    """A view as its class and what it was made with; the views in it likewise, and all else as it is."""
    if isinstance(thing, View):
        return (thing.__class__.__name__, {name: told_of(part) for name, part in vars(thing).items()})
    return [told_of(part) for part in thing] if isinstance(thing, list) else thing


def expanded(grammar, stack):
    """All stacks that come of this one, each with a piece on its top, or with nothing left at all."""
    if not stack or stack[0] not in grammar:
        return {stack}
    told = set()
    for form in grammar[stack[0]]:
        told |= expanded(grammar, tuple(form) + stack[1:])
    return told


def begun(grammar, first):
    return expanded(grammar, (first,))


def moved(grammar, stacks, piece):
    """The stacks behind one more piece: none where the piece can not stand there. NAME stands for every name."""
    told = set()
    for stack in stacks:
        if stack and (stack[0] == piece or (stack[0] == "NAME" and piece.isalpha())):
            told |= expanded(grammar, stack[1:])
    return told


def fault(grammar, first, pieces):
    """The number of the first piece that can not stand, as many as there are where more is wanted, or None."""
    stacks = begun(grammar, first)
    for number, piece in enumerate(pieces):
        stacks = moved(grammar, stacks, piece)
        if not stacks:
            return number
    return None if () in stacks else len(pieces)


def texts_near(grammar, first, alphabet, length):
    """All rows of pieces up to the length of which all but the last one can stand."""
    reached = [([], begun(grammar, first))]
    while reached:
        pieces, stacks = reached.pop()
        yield pieces
        if stacks and len(pieces) < length:
            reached.extend([(pieces + [piece], moved(grammar, stacks, piece)) for piece in alphabet])


def spoiled_rows(pieces, alphabet):
    """All rows that come of these pieces where one is left out, or exchanged, or one more is put in."""
    for number in range(len(pieces) + 1):
        yield pieces[:number]
        yield pieces[:number] + pieces[number + 1:]
        for piece in alphabet:
            yield pieces[:number] + [piece] + pieces[number:]
            yield pieces[:number] + [piece] + pieces[number + 1:]


PATHS = {
    "PATH": [["[", "]"], ["[", "NAMES", "]"]],
    "NAMES": [["NAME"], ["NAME", ",", "NAMES"]],
}

LOOK_GRAMMAR = {
    **PATHS,
    "LOOK": [["less", "PATH", "THING"], ["same", "PATH", "THING"], ["is", "PATH", "NAME"], ["some", "PATH"],
             ["not", "INNER"], ["and", "INNER", "INNER"], ["or", "INNER", "INNER"]],
    "THING": [["5"], ['"x"']],
    "INNER": [["(", "LOOK", ")"]],
}

VIEW_GRAMMAR = {
    **LOOK_GRAMMAR,
    "CHAIN": [[], ["STEP", "REST"]],
    "REST": [[], ["then", "STEP", "REST"]],
    "VIEW": [["(", "CHAIN", ")"]],
    "STEP": [
        ["same"], ["take", "PATH"], ["rename", "NAME", "as", "NAME"], ["nest", "PATH", "as", "NAME"], ["unnest", "NAME"],
        ["within", "NAME", "VIEW"], ["at", "NAME"], ["keep", "INNER"], ["order", "[", "]"], ["order", "[", "NAME", "]"],
        ["each", "VIEW"], ["beside", "NAME", "as", "NAME", "with", "NAME"], ["group", "NAME", "as", "NAME"],
        ["join", "NAME", "with", "NAME", "on", "NAME"], ["top"], ["boughs", "VIEW"],
        ["unroll", "[", "NAME", ",", "NAME", ",", "NAME", "]"], ["case", "NAME", "VIEW"], ["choose", "INNER", "VIEW", "VIEW"],
        ["VIEW"],
    ],
}


def places(pieces, gaps):
    """The text of the pieces with so many blanks ahead of each, in turn, and where each one begins."""
    text, told = "", []
    for piece, gap in zip(pieces, itertools.cycle(gaps)):
        run = text[-1:].isalpha() and piece.isalpha() or text[-1:].isdigit() and piece.isdigit()
        text += " " * max(gap, run)
        told.append(len(text))
        text += piece
    return text, told

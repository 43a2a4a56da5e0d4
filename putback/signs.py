"""The pieces that texts are made of, and a reader that takes them one by one from the left."""

from putback.errors import NoText

MARKS = "{}[]()<>:,"
MOST_LETTERS = 12
MOST_FIGURES = 80
MOST_SIGNS = 40


def pieces_of(text):
    # A piece: its sort, what it tells, the place where it begins, and the place behind it.
    pieces = []
    place = 0
    while place < len(text):
        if text[place] == " ":
            place += 1
        else:
            pieces.append(piece_at(text, place))
            place = pieces[-1][3]
    pieces.append(("end", "", len(text), len(text)))
    return pieces


def piece_at(text, place):
    sign = text[place]
    if sign in MARKS:
        return ("mark", sign, place, place + 1)
    if sign == '"':
        return word_at(text, place)
    if sign >= "a" and sign <= "z":
        return name_at(text, place)
    return number_at(text, place)


def no_piece(text, place):
    # No text that holds it is read further, so it reaches to the text's end.
    return ("none", "", place, len(text))


def run_end(text, place, least, most):
    end = place
    while end < len(text) and text[end] >= least and text[end] <= most:
        end += 1
    return end


def word_at(text, place):
    end = text.find('"', place + 1)
    if end == -1 or end - place - 1 > MOST_SIGNS:
        return no_piece(text, place)
    return ("word", text[place + 1:end], place, end + 1)


def name_at(text, place):
    end = run_end(text, place, "a", "z")
    if end - place > MOST_LETTERS:
        return no_piece(text, place)
    return ("name", text[place:end], place, end)


def number_at(text, place):
    first = place + 1 if text[place] == "-" else place
    end = run_end(text, first, "0", "9")
    # A sign that begins no piece at all has no figures either.
    if end == first or end - first > MOST_FIGURES:
        return no_piece(text, place)
    if text[first] == "0" and text[place:end] != "0":
        return no_piece(text, place)
    return ("number", int(text[place:end]), place, end)


class Reader:
    def __init__(self, text):
        self.pieces = pieces_of(text)
        self.reached = 0

    def is_at(self, sort, thing):
        piece = self.pieces[self.reached]
        return piece[0] == sort and piece[1] == thing

    def is_of(self, sort):
        return self.pieces[self.reached][0] == sort

    def taken(self, sort):
        piece = self.pieces[self.reached]
        if piece[0] != sort:
            raise NoText(piece[2])
        self.reached += 1
        return piece[1]

    def taken_among(self, names):
        piece = self.pieces[self.reached]
        if piece[1] not in names:
            raise NoText(piece[2])
        return self.taken("name")

    def passed(self, sort, thing):
        if not self.is_at(sort, thing):
            return False
        self.reached += 1
        return True

    def pass_mark(self, mark):
        if not self.passed("mark", mark):
            raise NoText(self.pieces[self.reached][2])

    def ask_end(self):
        if not self.is_at("end", ""):
            raise NoText(self.pieces[self.reached][2])

    def listed(self, first, last, read_one):
        self.pass_mark(first)
        things = []
        if not self.is_at("mark", last):
            things.append(read_one(self))
            while self.passed("mark", ","):
                things.append(read_one(self))
        self.pass_mark(last)
        return things

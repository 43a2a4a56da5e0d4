"""Looks in writing: read and written."""

import unittest

from notecase import LOOK_GRAMMAR, NoteCase, fault, pieces_in, places, spaced_out, spoiled_rows, texts_near, tight

from putback.viewnotes import read_look, written_look

WRITTEN = [
    ("less [a] 5", ("less", ("a",), 5)),
    ("less [a, b] 5", ("less", ("a", "b"), 5)),
    ("less [] -5", ("less", (), -5)),
    ('less [a] "x"', ("less", ("a",), "x")),
    ("same [a, b, c] 0", ("same", ("a", "b", "c"), 0)),
    ('same [] "x"', ("same", (), "x")),
    ('same [] ""', ("same", (), "")),
    ('same [a] "5"', ("same", ("a",), "5")),
    ('same [a] " (a), [b]  "', ("same", ("a",), " (a), [b]  ")),
    ("is [a] round", ("is", ("a",), "round")),
    ("is [] a", ("is", (), "a")),
    ("is [a, b] c", ("is", ("a", "b"), "c")),
    ("some [a]", ("some", ("a",))),
    ("some []", ("some", ())),
    ("some [a, a]", ("some", ("a", "a"))),
    ("not (some [a])", ("not", ("some", ("a",)))),
    ("not (not (some []))", ("not", ("not", ("some", ())))),
    ("and (some [a]) (less [b] 5)", ("and", ("some", ("a",)), ("less", ("b",), 5))),
    ("or (some [a]) (less [b] 5)", ("or", ("some", ("a",)), ("less", ("b",), 5))),
    ("or (and (some [a]) (some [b])) (not (is [c] d))",
     ("or", ("and", ("some", ("a",)), ("some", ("b",))), ("not", ("is", ("c",), "d")))),
    ("and (or (some [a]) (some [b])) (or (some [c]) (some [d]))",
     ("and", ("or", ("some", ("a",)), ("some", ("b",))), ("or", ("some", ("c",)), ("some", ("d",))))),
    ("is [is] is", ("is", ("is",), "is")),
    ("is [not, and, or] not", ("is", ("not", "and", "or"), "not")),
    ('same [less, same, some] "less"', ("same", ("less", "same", "some"), "less")),
    ("less [as, then, on, by, with] 1", ("less", ("as", "then", "on", "by", "with"), 1)),
    ("some [number, word, rows, tree, either]", ("some", ("number", "word", "rows", "tree", "either"))),
    ("not (is [take] then)", ("not", ("is", ("take",), "then"))),
    ("some [abcdefghijkl]", ("some", ("abcdefghijkl",))),
    ("less [a] " + "9" * 60, ("less", ("a",), int("9" * 60))),
    ("less [a] -" + "9" * 80, ("less", ("a",), -int("9" * 80))),
    ('same [a] "' + "~ " * 20 + '"', ("same", ("a",), "~ " * 20)),
]

ALPHABET = ["less", "same", "is", "some", "not", "and", "or", "a", "5", '"x"', "[", "]", "(", ")", ",", "{", "<", ":"]


def leaves():
    return [("less", ("a",), 5), ("same", (), "x"), ("is", ("a", "b"), "c"), ("some", ())]


def looks(deep):
    """All looks so deep that some few leaves make."""
    if deep == 1:
        return leaves()
    inner = looks(deep - 1)
    told = [("not", look) for look in inner]
    for number, look in enumerate(inner):
        told.append(("and", look, inner[-1 - number]))
        told.append(("or", inner[number // 2], look))
    return leaves() + told


def deep_look(count):
    look = ("some", ("a",))
    for number in range(count - 1):
        look = [("not", look), ("and", ("less", (), 1), look), ("or", look, ("is", ("a",), "b"))][number % 3]
    return look


class ReadLookTest(NoteCase):
    def test_each_form(self):
        for text, look in WRITTEN:
            self.assertEqual(read_look(text), look, text)

    def test_blanks_or_none(self):
        for text, look in WRITTEN:
            pieces = pieces_in(text)
            self.assertEqual(read_look("  " + "   ".join(pieces) + " "), look)
            self.assertEqual(read_look(tight(pieces)), look)

    def test_a_look_is_made_of_tuples(self):
        for text, look in WRITTEN:
            hash(read_look(text))
        self.assertIs(read_look("less [a] 1")[2].__class__, int)
        self.assertIs(read_look('less [a] "1"')[2].__class__, str)

    def test_ten_deep_and_more(self):
        for count in (9, 10, 11, 30):
            self.assertEqual(read_look(written_look(deep_look(count))), deep_look(count))


class NoLookTextTest(NoteCase):
    def test_more_is_wanted(self):
        for text in (
            "", "less", "less [", "less [a", "less [a,", "less [a, b", "less [a]", "less []", "same", "same []", "is", "is []",
            "is [a]", "some", "some [", "some [a", "not", "not (", "not (some", "not (some []", "and", "and (", "and (some []",
            "and (some [])", "and (some []) (", "and (some []) (some []", "or (some [a])", "or (some []) (not (some [])",
        ):
            self.no_look_text(text, len(text))
            self.no_look_text(text + "   ", len(text) + 3)

    def test_what_can_not_begin_a_look(self):
        for text in ("a", "take", "then", "keep", "as", "number", "5", "-5", '"less"', "(", ")", "[", "]", "{", "}", "<", ">", ":", ",",
                     "lesss", "0", "nott"):
            self.no_look_text(text, 0)
            self.no_look_text(" " + text, 1)
            self.no_look_text("not (" + text, 5)
            self.no_look_text("or (some [a]) (" + text, 15)

    def test_names_in_brackets(self):
        for form in ("less", "same", "some"):
            for piece in ("a", "5", '"a"', "(", "{", "<", "]", ",", ":"):
                self.no_look_text(form + " " + piece, 5)
        for piece in ("5", '"a"', "[", "(", ")", "}", ",", ":", "-1"):
            self.no_look_text("some [" + piece, 6)
            self.no_look_text("some [a, " + piece, 9)
        for piece in ("b", "5", '"a"', "[", "(", ")", "}", ":"):
            self.no_look_text("some [a " + piece, 8)
        self.no_look_text("some [a,]", 8)
        self.no_look_text("some [,]", 6)

    def test_the_thing_or_the_name(self):
        for piece in ("a", "less", "[", "]", "(", ")", "{", "<", ",", ":"):
            self.no_look_text("less [a] " + piece, 9)
            self.no_look_text("same [] " + piece, 8)
        for piece in ("5", '"a"', "[", "(", ")", ","):
            self.no_look_text("is [a] " + piece, 7)

    def test_inner_looks(self):
        for piece in ("some", "not", "a", "5", '"a"', "[", ")", "{", "<", ","):
            self.no_look_text("not " + piece, 4)
            self.no_look_text("and " + piece, 4)
            self.no_look_text("or " + piece, 3)
            self.no_look_text("and (some []) " + piece, 14)
        for piece in ("some", "and", "5", "(", "[", "]", ","):
            self.no_look_text("not (some [] " + piece, 13)
        self.no_look_text("not ()", 5)
        self.no_look_text("not some [a]", 4)
        self.no_look_text("and (some []), (some [])", 13)

    def test_a_piece_behind_a_whole_text(self):
        for text, look in WRITTEN:
            for piece in ALPHABET + ["then", ">", "-1"]:
                self.no_look_text(text + " " + piece, len(text) + 1)

    def test_what_is_no_piece(self):
        for bad in ("!", "007", "-0", "-", "a" * 13, "1" * 81, '"x', '"' + "x" * 41 + '"', "A", "+1"):
            self.no_look_text(bad, 0)
            self.no_look_text("less [a] " + bad, 9)
            self.no_look_text("some [" + bad + "]", 6)
            self.no_look_text("some [a] " + bad, 9)
            self.no_look_text("not (some [a] " + bad, 14)
            self.no_look_text("less a " + bad, 5)
        self.no_look_text("less [a] 5!", 10)
        self.no_look_text("less [a] 5a", 10)
        self.no_look_text("is [a] b5", 8)

    def test_every_text_of_few_pieces(self):
        good = 0
        few = [piece for piece in ALPHABET if piece not in ["same", "or", "{", "<"]]
        for number, pieces in enumerate(texts_near(LOOK_GRAMMAR, "LOOK", few, 8)):
            good += self.read_or_no_text(number, pieces)
        self.assertGreater(good, 400)

    def test_a_piece_out_of_place_anywhere(self):
        for text in (WRITTEN[1][0], 'same [a, not] "x"', "or (and (some [a]) (is [] b)) (not (less [c, or] 5))"):
            for number, pieces in enumerate(spoiled_rows(pieces_in(text), ALPHABET)):
                self.read_or_no_text(number, pieces)

    def read_or_no_text(self, number, pieces):
        text, begins = places(pieces, [[0], [1, 2], [3, 0]][number % 3])
        wrong = fault(LOOK_GRAMMAR, "LOOK", pieces)
        if wrong is None:
            self.assertEqual(pieces_in(written_look(read_look(text))), pieces)
            return 1
        self.no_look_text(text, (begins + [len(text)])[wrong])
        return 0


class WrittenLookTest(NoteCase):
    def test_each_form(self):
        for text, look in WRITTEN:
            self.assertEqual(written_look(look), text)

    def test_blank_by_blank(self):
        for look in looks(3) + [deep_look(10)]:
            text = written_look(look)
            self.assertEqual(text, spaced_out(pieces_in(text)))

    def test_read_back(self):
        for look in looks(4):
            self.assertEqual(read_look(written_look(look)), look)


if __name__ == "__main__":
    unittest.main()

"""Kinds in writing: read and written."""

import unittest

from notecase import NoteCase, fault, pieces_in, places, spaced, texts_near, tight

from putback.errors import NoKind, NoText, ViewError
from putback.kindnotes import read_kind, written_kind
from putback.kinds import either_of, record_of, rows_of

N = ("number",)
W = ("word",)
ID = rows_of("id", "", [("id", N)])

WRITTEN = [
    ("number", N),
    ("word", W),
    ("{}", record_of([])),
    ("{a: number}", record_of([("a", N)])),
    ("{a: number, b: word}", record_of([("a", N), ("b", W)])),
    ("{a: {}, b: {c: {d: word}}}", record_of([("a", record_of([])), ("b", record_of([("c", record_of([("d", W)]))]))])),
    ("rows id {id: number}", ID),
    ("rows id {id: number, name: word}", rows_of("id", "", [("id", N), ("name", W)])),
    ("rows id by name {id: number, name: word}", rows_of("id", "name", [("id", N), ("name", W)])),
    ("rows name by id {id: number, name: word}", rows_of("name", "id", [("id", N), ("name", W)])),
    ("rows id {id: word, in: rows id {id: number}}", rows_of("id", "", [("id", W), ("in", ID)])),
    ("tree number", ("tree", N)),
    ("tree tree word", ("tree", ("tree", W))),
    ("tree {}", ("tree", record_of([]))),
    ("tree rows id {id: number}", ("tree", ID)),
    ("tree either {a: tree number}", ("tree", either_of([("a", ("tree", N))]))),
    ("either {a: number}", either_of([("a", N)])),
    ("either {a: either {b: word}, b: {}}", either_of([("a", either_of([("b", W)])), ("b", record_of([]))])),
    ("{a: tree number, b: either {c: word}, c: rows id {id: number}}",
     record_of([("a", ("tree", N)), ("b", either_of([("c", W)])), ("c", ID)])),
    ("{either: number, number: word, rows: tree word, tree: {}, word: number}",
     record_of([("either", N), ("number", W), ("rows", ("tree", W)), ("tree", record_of([])), ("word", N)])),
    ("rows by by rows {by: number, rows: word}", rows_of("by", "rows", [("by", N), ("rows", W)])),
    ("rows by {by: number}", rows_of("by", "", [("by", N)])),
    ("rows rows by by {by: word, rows: number}", rows_of("rows", "by", [("by", W), ("rows", N)])),
    ("rows number by word {number: word, word: number}", rows_of("number", "word", [("number", W), ("word", N)])),
]


def deep_kind(levels):
    kind = N
    for number in range(levels - 1):
        kind = [("tree", kind), record_of([("a", kind), ("b", W)]), either_of([("c", kind)]),
                rows_of("id", "", [("id", N), ("z", kind)])][number % 4]
    return kind


class ReadKindTest(NoteCase):
    def test_each_form(self):
        for text, kind in WRITTEN:
            self.assertEqual(read_kind(text), kind, text)

    def test_blanks_or_none(self):
        for text, kind in WRITTEN:
            pieces = pieces_in(text)
            self.assertEqual(read_kind("  " + "   ".join(pieces) + " "), kind)
            self.assertEqual(read_kind(tight(pieces)), kind)

    def test_fields_in_any_order(self):
        self.assertEqual(read_kind("{b: word, a: number}"), record_of([("a", N), ("b", W)]))
        self.assertEqual(read_kind("{c: word, a: {z: word, y: number}, b: number}"),
                         ("record", (("a", ("record", (("y", N), ("z", W)))), ("b", N), ("c", W))))
        self.assertEqual(read_kind("either {b: word, a: number}"), ("either", (("a", N), ("b", W))))
        self.assertEqual(read_kind("rows z by y {z: word, y: number, x: {}}"),
                         ("rows", "z", "y", (("x", ("record", ())), ("y", N), ("z", W))))

    def test_what_is_told_is_made_of_tuples(self):
        kind = read_kind("{a: rows id {name: word, id: number}, b: tree either {x: {}}}")
        hash(kind)
        self.assertEqual(kind, (
            "record",
            (("a", ("rows", "id", "", (("id", N), ("name", W)))), ("b", ("tree", ("either", (("x", ("record", ())),))))),
        ))

    def test_twelve_fields_and_eight_deep(self):
        names = [letter * 12 for letter in "abcdefghijkl"]
        self.assertEqual(read_kind("{" + ", ".join(name + ": word" for name in names[::-1]) + "}"),
                         record_of([(name, W) for name in names]))
        for levels in (8, 9, 30):
            self.assertEqual(read_kind(written_kind(deep_kind(levels))), deep_kind(levels))


class NoKindTextTest(NoteCase):
    def test_more_is_wanted(self):
        for text in (
            "", "{", "{a", "{a:", "{a: number", "{a: number,", "{a: number, b", "{a: {}", "rows", "rows id", "rows id by",
            "rows id by name", "rows id {", "rows id by name {", "rows by", "rows by by", "rows by by by", "tree", "tree tree",
            "tree {", "either", "either {", "either {a: word", "{a: tree", "{a: rows", "{a: either",
        ):
            self.no_kind_text(text, len(text))
            self.no_kind_text(text + "  ", len(text) + 2)

    def test_what_can_not_begin_a_kind(self):
        for text in ("a", "by", "numbers", "5", "-5", '"number"', '""', "}", "[", "]", "(", ")", "<", ">", ":", ",", "as", "then"):
            self.no_kind_text(text, 0)
            self.no_kind_text("tree " + text, 5)
            self.no_kind_text("{a: " + text + "}", 4)
            self.no_kind_text("either {a: number, b: " + text, 22)

    def test_fields(self):
        for piece in ("5", '"a"', "{", "[", "(", "<", ":", ","):
            self.no_kind_text("{" + piece, 1)
            self.no_kind_text("{a: number, " + piece, 12)
        self.no_kind_text("{a: number,}", 11)
        self.no_kind_text("{,}", 1)
        for piece in ("number", "5", '"a"', "{", "}", ",", "(", "<"):
            self.no_kind_text("{a " + piece, 3)
        for piece in ("b", "number", "5", '"a"', "{", ":", "]", ")", ">", "["):
            self.no_kind_text("{a: number " + piece, 11)
            self.no_kind_text("either {a: {} " + piece, 14)

    def test_rows(self):
        for piece in ("{", "5", '"id"', ":", "}", ","):
            self.no_kind_text("rows " + piece, 5)
            self.no_kind_text("rows id by " + piece, 11)
        for piece in ("name", "in", "number", "5", "}", ":", "[", "("):
            self.no_kind_text("rows id " + piece, 8)
        for piece in ("by", "name", "5", "}", ":", "["):
            self.no_kind_text("rows id by name " + piece, 16)
        self.no_kind_text("rows by {by: number} by id", 21)
        self.no_kind_text("rows by by {by: number}", 11)

    def test_either_and_record(self):
        for piece in ("a", "5", "(", "[", "number", "either", ":"):
            self.no_kind_text("either " + piece, 7)
        self.no_kind_text("record {a: number}", 0)
        self.no_kind_text("tree (number)", 5)

    def test_a_piece_behind_a_whole_text(self):
        for text, kind in WRITTEN:
            for piece in ("a", "number", "5", '"a"', "{", "}", "[", "]", "(", ")", "<", ">", ":", ","):
                self.no_kind_text(text + " " + piece, len(text) + 1)

    def test_every_text_of_few_pieces(self):
        alphabet = ["number", "rows", "by", "tree", "either", "a", "{", "}", ":", ",", "5", "("]
        grammar = {
            "KIND": [["number"], ["word"], ["BRACES"], ["rows", "NAME", "BRACES"], ["rows", "NAME", "by", "NAME", "BRACES"],
                     ["tree", "KIND"], ["either", "BRACES"]],
            "BRACES": [["{", "}"], ["{", "FIELDS", "}"]],
            "FIELDS": [["FIELD"], ["FIELD", ",", "FIELDS"]],
            "FIELD": [["NAME", ":", "KIND"]],
        }
        good = 0
        for number, pieces in enumerate(texts_near(grammar, "KIND", alphabet, 7)):
            text, begins = places(pieces, [[0], [1, 2], [3, 0]][number % 3])
            wrong = fault(grammar, "KIND", pieces)
            if wrong is None:
                good += 1
                self.read_or_no_kind(text)
            else:
                self.no_kind_text(text, (begins + [len(text)])[wrong])
        self.assertGreater(good, 50)

    def read_or_no_kind(self, text):
        try:
            self.assertEqual(pieces_in(written_kind(read_kind(text))), pieces_in(text))
        except NoKind:
            pass


class NoKindTest(NoteCase):
    FAULTS = [
        "{a: number, a: number}", "{a: number, a: word}", "{a: number, b: word, a: {}}", "either {}", "either {a: word, a: word}",
        "rows id {}", "rows id {name: word}", "rows id {id: {}}", "rows id {id: rows id {id: number}}", "rows id {id: tree number}",
        "rows id {id: either {a: number}}", "rows id {id: number, id: number}", "rows id by id {id: number}",
        "rows id by name {id: number}", "rows id by name {id: number, name: {}}", "rows id by name {name: number}",
        "rows id by name {id: number, name: tree word}", "rows by by by {by: number}", "rows id by name {}",
    ]
    AROUND = [
        "{x: @}", "{x: @, y: number}", "{a: word, x: @, y: number}", "either {x: @}", "either {w: number, x: @}", "tree @",
        "tree tree @", "rows id {id: number, x: @}", "rows id by name {x: @, id: number, name: word}",
        "{a: tree either {b: rows id {id: word, x: {c: @}}}}",
    ]

    def test_each_fault(self):
        for text in self.FAULTS:
            self.no_kind(text)
            self.no_kind("  " + text + "  ")

    def test_at_any_depth(self):
        for around in self.AROUND:
            for text in self.FAULTS:
                self.no_kind(around.replace("@", text))

    def test_one_behind_the_other(self):
        self.no_kind("{a: either {}, b: rows id {}}")
        self.no_kind("{a: number, b: either {}}")
        self.no_kind("{a: either {}, b: number}")

    def test_what_is_a_kind_beside_them(self):
        for text in ("{}", "{a: {}}", "tree {}", "either {a: {}}", "rows id {id: number, x: {}}", "{a: number, b: number}"):
            self.assertEqual(written_kind(read_kind(text)), text)

    def test_no_text_goes_ahead(self):
        for text in self.FAULTS:
            self.no_kind_text(text + " word", len(text) + 1)
            self.no_kind_text(text + " !", len(text) + 1)
            self.no_kind_text(text[:-1], len(text) - 1)
            for around in self.AROUND:
                whole = around.replace("@", text)
                self.no_kind_text(whole + " }", len(whole) + 1)
                self.no_kind_text(around.replace("@", text + " 5"), around.index("@") + len(text) + 1)

    def test_neither_refusal_stands_beneath_the_other(self):
        for text, refusal in (("either {}", NoKind), ("either {", NoText)):
            with self.assertRaises(ViewError) as caught:
                read_kind(text)
            self.assertIs(caught.exception.__class__, refusal)


class WrittenKindTest(NoteCase):
    def test_each_form(self):
        for text, kind in WRITTEN:
            self.assertEqual(written_kind(kind), text)

    def test_in_the_order_of_names(self):
        self.assertEqual(written_kind(read_kind("{c:word,a:{z:word,y:number},b:number}")),
                         "{a: {y: number, z: word}, b: number, c: word}")
        self.assertEqual(written_kind(record_of([("ab", N), ("b", N), ("a", N)])), "{a: number, ab: number, b: number}")

    def test_blank_by_blank(self):
        for text, kind in WRITTEN + [("", deep_kind(12))]:
            told = written_kind(kind)
            self.assertEqual(told, spaced(pieces_in(told)))

    def test_read_back(self):
        for text, kind in WRITTEN:
            for around in (kind, ("tree", kind), record_of([("a", kind), ("b", N)]), either_of([("x", kind)]),
                           rows_of("id", "", [("id", W), ("x", kind)])):
                self.assertEqual(read_kind(written_kind(around)), around)


if __name__ == "__main__":
    unittest.main()

"""Values in writing: read for a kind, and written."""

import copy
import unittest

from notecase import NoteCase, fault, pieces_in, places, spaced, texts_near

from putback.kindnotes import read_kind, read_value, written_kind, written_value
from putback.kinds import either_of, record_of, rows_of
from putback.values import empty, misfit

N = ("number",)
W = ("word",)
ID = rows_of("id", "", [("id", N)])
PAIR = record_of([("a", N), ("b", W)])
PEOPLE = rows_of("id", "name", [("id", N), ("name", W)])
SHAPE = either_of([("box", PAIR), ("dot", N), ("nil", record_of([]))])
NEST = record_of([
    ("list", rows_of("id", "", [("id", W), ("in", ID), ("of", SHAPE)])), ("of", ("tree", SHAPE)), ("tree", ("tree", ("tree", ID))),
])

WRITTEN = [
    (N, "0", 0), (N, "7", 7), (N, "-7", -7), (N, "1" + "0" * 59, 10 ** 59), (N, "-" + "9" * 60, 1 - 10 ** 60),
    (W, '""', ""), (W, '"a"', "a"), (W, '" a  b "', " a  b "), (W, '"{[(<:,>)]}"', "{[(<:,>)]}"), (W, '"-0 \'x\' \\"', "-0 'x' \\"),
    (record_of([]), "{}", {}),
    (record_of([("a", N)]), "{a: 1}", {"a": 1}),
    (PAIR, '{a: -1, b: "x"}', {"a": -1, "b": "x"}),
    (record_of([("a", record_of([])), ("b", PAIR)]), '{a: {}, b: {a: 0, b: ""}}', {"a": {}, "b": {"a": 0, "b": ""}}),
    (ID, "[]", []), (ID, "[{id: 1}]", [{"id": 1}]), (ID, "[{id: -1}, {id: 2}]", [{"id": -1}, {"id": 2}]),
    (PEOPLE, '[{id: 2, name: "a"}, {id: 1, name: "b"}]', [{"id": 2, "name": "a"}, {"id": 1, "name": "b"}]),
    (("tree", N), "<1>", (1, [])), (("tree", N), "<1: <2>>", (1, [(2, [])])),
    (("tree", N), "<1: <2>, <3>>", (1, [(2, []), (3, [])])),
    (("tree", N), "<1: <2: <3: <-4>>, <5>>, <6>>", (1, [(2, [(3, [(-4, [])]), (5, [])]), (6, [])])),
    (("tree", W), '<"": <"x">>', ("", [("x", [])])),
    (("tree", record_of([])), "<{}: <{}>>", ({}, [({}, [])])),
    (("tree", ID), "<[]: <[{id: 1}]>>", ([], [([{"id": 1}], [])])),
    (("tree", ("tree", N)), "<<1: <2>>: <<3>>>", ((1, [(2, [])]), [((3, []), [])])),
    (("tree", SHAPE), "<dot(1): <nil({})>>", (("dot", 1), [(("nil", {}), [])])),
    (SHAPE, "dot(-5)", ("dot", -5)), (SHAPE, "nil({})", ("nil", {})), (SHAPE, 'box({a: 1, b: "x"})', ("box", {"a": 1, "b": "x"})),
    (either_of([("a", either_of([("b", W)]))]), 'a(b("c"))', ("a", ("b", "c"))),
    (either_of([("a", ("tree", N)), ("b", ID)]), "a(<1>)", ("a", (1, []))),
    (either_of([("a", ("tree", N)), ("b", ID)]), "b([{id: 1}])", ("b", [{"id": 1}])),
    (either_of([("either", N), ("number", N), ("rows", W)]), "number(5)", ("number", 5)),
    (record_of([("by", N), ("number", N), ("rows", ID)]), "{by: 1, number: 2, rows: []}", {"by": 1, "number": 2, "rows": []}),
    (NEST, '{list: [{id: "k", in: [{id: 3}], of: dot(1)}], of: <nil({})>, tree: <<[]: <[]>>: <<[]>>>}', {
        "list": [{"id": "k", "in": [{"id": 3}], "of": ("dot", 1)}], "of": (("nil", {}), []),
        "tree": (([], [([], [])]), [(([], []), [])]),
    }),
]


class ReadValueTest(NoteCase):
    def test_each_form(self):
        for kind, text, value in WRITTEN:
            told = read_value(kind, text)
            self.assertEqual(told, value, text)
            self.assertIsNone(misfit(kind, told))

    def test_blanks_or_none(self):
        for kind, text, value in WRITTEN:
            pieces = pieces_in(text)
            self.assertEqual(read_value(kind, "   " + "  ".join(pieces) + " "), value)
            self.assertEqual(read_value(kind, "".join(pieces)), value)

    def test_an_either_with_blanks(self):
        self.assertEqual(read_value(SHAPE, " dot ( 5 ) "), ("dot", 5))

    def test_great_numbers(self):
        for number in (10 ** 79, 10 ** 80 - 1, 1 - 10 ** 80):
            self.assertEqual(read_value(("tree", N), f"<{number}:<{number}>>"), (number, [(number, [])]))

    def test_rows_as_they_stand(self):
        self.assertEqual(read_value(ID, "[{id: 2}, {id: 1}]"), [{"id": 2}, {"id": 1}])
        self.assertEqual(read_value(ID, "[{id: 2}, {id: 2}]"), [{"id": 2}, {"id": 2}])
        self.assertEqual(read_value(PEOPLE, '[{id: 1, name: "b"}, {id: 2, name: "a"}, {id: 1, name: ""}]'),
                         [{"id": 1, "name": "b"}, {"id": 2, "name": "a"}, {"id": 1, "name": ""}])
        told = read_value(record_of([("r", ID)]), "{r: [{id: 3}, {id: 3}]}")
        self.assertEqual(misfit(record_of([("r", ID)]), told), ["r", 1])

    def test_each_reading_is_its_own(self):
        one = read_value(NEST, WRITTEN[-1][1])
        other = read_value(NEST, WRITTEN[-1][1])
        one["list"][0]["in"].append({"id": 9})
        one["tree"][1].append(0)
        self.assertEqual(other, WRITTEN[-1][2])
        rows = read_value(rows_of("id", "", [("id", N), ("in", ID)]), "[{id: 1, in: []}, {id: 2, in: []}]")
        rows[0]["in"].append(1)
        self.assertEqual(rows[1]["in"], [])


class NoValueTextTest(NoteCase):
    def test_number_and_word(self):
        for piece in ("a", "number", '"5"', "{", "}", "[", "]", "(", ")", "<", ">", ":", ","):
            self.no_value_text(N, piece, 0)
            self.no_value_text(N, "  " + piece + " 5", 2)
        for piece in ("a", "word", "5", "-5", "{", "}", "[", "]", "(", ")", "<", ">", ":", ","):
            self.no_value_text(W, piece, 0)

    def test_more_is_wanted(self):
        for kind, text, value in WRITTEN:
            pieces = pieces_in(text)
            for count in range(len(pieces)):
                begun = spaced(pieces[:count])
                self.no_value_text(kind, begun, len(begun))
                self.no_value_text(kind, begun + " ", len(begun) + 1)

    def test_a_piece_behind_a_whole_text(self):
        for kind, text, value in WRITTEN:
            for piece in ("a", "5", '"a"', "{", "}", "[", "]", "(", ")", "<", ">", ":", ",", "!"):
                self.no_value_text(kind, text + " " + piece, len(text) + 1)

    def test_a_field_left_out(self):
        self.no_value_text(PAIR, "{}", 1)
        self.no_value_text(PAIR, "{a: 1}", 5)
        self.no_value_text(PAIR, '{b: "x"}', 1)
        self.no_value_text(PEOPLE, '[{id: 1, name: "a"}, {id: 2}]', 27)

    def test_a_field_too_many(self):
        self.no_value_text(record_of([]), "{a: 1}", 1)
        self.no_value_text(PAIR, '{a: 1, b: "x", c: 1}', 13)
        self.no_value_text(PAIR, '{a: 1, aa: 1, b: "x"}', 7)
        self.no_value_text(PAIR, '{a: 1, a: 1, b: "x"}', 7)
        self.no_value_text(PAIR, '{a: 1, b: "x",}', 13)
        self.no_value_text(ID, "[{id: 1, name: 2}]", 7)

    def test_fields_in_another_order(self):
        self.no_value_text(PAIR, '{b: "x", a: 1}', 1)
        self.no_value_text(record_of([("a", N), ("b", N), ("c", N)]), "{a: 1, c: 2, b: 3}", 7)
        self.no_value_text(PEOPLE, '[{name: "a", id: 1}]', 2)

    def test_another_fields_name(self):
        self.no_value_text(PAIR, '{c: 1, b: "x"}', 1)
        self.no_value_text(PAIR, '{"a": 1, b: "x"}', 1)
        self.no_value_text(PAIR, '{1: 1, b: "x"}', 1)
        self.no_value_text(PAIR, "{: 1}", 1)

    def test_within_a_record(self):
        self.no_value_text(PAIR, '{a 1, b: "x"}', 3)
        self.no_value_text(PAIR, '{a: "x", b: "x"}', 4)
        self.no_value_text(PAIR, "{a: 1, b: 2}", 10)
        self.no_value_text(PAIR, '{a: 1: b: "x"}', 5)
        self.no_value_text(PAIR, '{a: 1 b: "x"}', 6)
        self.no_value_text(PAIR, '{a: 1, b: "x"]', 13)
        self.no_value_text(PAIR, '[a: 1, b: "x"}', 0)

    def test_rows(self):
        self.no_value_text(ID, "{id: 1}", 0)
        self.no_value_text(ID, "[{id: 1},]", 9)
        self.no_value_text(ID, "[,]", 1)
        self.no_value_text(ID, "[{id: 1} {id: 2}]", 9)
        self.no_value_text(ID, "[{}]", 2)
        self.no_value_text(ID, "[1]", 1)
        self.no_value_text(ID, "[{id: 1}}", 8)
        self.no_value_text(ID, "[[]]", 1)
        self.no_value_text(ID, '[{id: 1}, {id: "x"}]', 15)

    def test_trees(self):
        tree = ("tree", N)
        self.no_value_text(tree, "1", 0)
        self.no_value_text(tree, "<>", 1)
        self.no_value_text(tree, "<1:>", 3)
        self.no_value_text(tree, "<1: 2>", 4)
        self.no_value_text(tree, "<1, <2>>", 2)
        self.no_value_text(tree, "<1: <2>: <3>>", 7)
        self.no_value_text(tree, "<1: <2> <3>>", 8)
        self.no_value_text(tree, "<1: <2>,>", 8)
        self.no_value_text(tree, '<1: <2: <"3">>>', 9)
        self.no_value_text(tree, "<1: <2>, <3>)", 12)
        self.no_value_text(tree, "<1 <2>>", 3)
        self.no_value_text(tree, "<1: [<2>]>", 4)
        self.no_value_text(("tree", ("tree", N)), "<1>", 1)

    def test_eithers(self):
        self.no_value_text(SHAPE, "round(5)", 0)
        self.no_value_text(SHAPE, "do(5)", 0)
        self.no_value_text(SHAPE, '"dot"(5)', 0)
        self.no_value_text(SHAPE, "(5)", 0)
        self.no_value_text(SHAPE, "5", 0)
        self.no_value_text(SHAPE, "dot 5", 4)
        self.no_value_text(SHAPE, "dot{5}", 3)
        self.no_value_text(SHAPE, "dot()", 4)
        self.no_value_text(SHAPE, "dot({})", 4)
        self.no_value_text(SHAPE, "nil(5)", 4)
        self.no_value_text(SHAPE, "nil()", 4)
        self.no_value_text(SHAPE, "dot(5]", 5)
        self.no_value_text(SHAPE, "dot(5, 6)", 5)
        self.no_value_text(("tree", SHAPE), "<dot(1): <round(2)>>", 10)

    def test_every_text_of_few_pieces(self):
        kinds = {
            "{a: number, b: word}": {"V": ['{ a : 5 , b : "x" }']},
            "{}": {"V": ["{ }"]},
            "{a: {}, b: {b: number}}": {"V": ["{ a : { } , b : { b : 5 } }"]},
            "rows a {a: number}": {"V": ["[ ]", "[ ROWS ]"], "ROWS": ["ROW", "ROW , ROWS"], "ROW": ["{ a : 5 }"]},
            "tree number": {"V": ["< 5 >", "< 5 : ARMS >"], "ARMS": ["V", "V , ARMS"]},
            "tree tree number": {
                "V": ["< IN >", "< IN : ARMS >"], "ARMS": ["V", "V , ARMS"], "IN": ["< 5 >", "< 5 : INS >"], "INS": ["IN", "IN , INS"],
            },
            "either {a: number, b: word}": {"V": ["a ( 5 )", 'b ( "x" )']},
            "either {a: {a: number}, b: rows b {b: word}}": {
                "V": ["a ( { a : 5 } )", "b ( [ ] )", "b ( [ ROWS ] )"], "ROWS": ["ROW", "ROW , ROWS"], "ROW": ['{ b : "x" }'],
            },
            "tree either {a: number, b: {}}": {
                "V": ["< E >", "< E : ARMS >"], "ARMS": ["V", "V , ARMS"], "E": ["a ( 5 )", "b ( { } )"],
            },
        }
        alphabet = ["a", "b", "c", "5", '"x"', "{", "}", "[", "]", "(", ")", "<", ">", ":", ","]
        for kind_text, forms in kinds.items():
            kind = read_kind(kind_text)
            grammar = {name: [form.split() for form in told] for name, told in forms.items()}
            good = 0
            for number, pieces in enumerate(texts_near(grammar, "V", alphabet, 14)):
                text, begins = places(pieces, [[0], [1, 2], [3, 0]][number % 3])
                wrong = fault(grammar, "V", pieces)
                if wrong is None:
                    good += 1
                    told = written_value(kind, read_value(kind, text))
                    self.assertEqual(pieces_in(told), pieces)
                else:
                    self.no_value_text(kind, text, (begins + [len(text)])[wrong])
            self.assertGreater(good, 0)


class WrittenValueTest(NoteCase):
    def test_each_form(self):
        for kind, text, value in WRITTEN:
            held = copy.deepcopy(value)
            self.assertEqual(written_value(kind, value), text)
            self.assertEqual(value, held)

    def test_blank_by_blank(self):
        for kind, text, value in WRITTEN:
            told = written_value(kind, value)
            self.assertEqual(told, spaced(pieces_in(told)))

    def test_in_the_order_of_names_whatever_the_dicts(self):
        kind = record_of([("c", N), ("a", N), ("b", PAIR)])
        self.assertEqual(written_value(kind, {"c": 1, "b": {"b": "", "a": 2}, "a": 3}), '{a: 3, b: {a: 2, b: ""}, c: 1}')
        self.assertEqual(written_value(PEOPLE, [{"name": "x", "id": 1}]), '[{id: 1, name: "x"}]')

    def test_rows_as_they_stand(self):
        self.assertEqual(written_value(ID, [{"id": 2}, {"id": 1}, {"id": 1}]), "[{id: 2}, {id: 1}, {id: 1}]")

    def test_the_empty_values(self):
        for kind, text, value in WRITTEN:
            self.assertEqual(read_value(kind, written_value(kind, empty(kind))), empty(kind))
        self.assertEqual(written_value(NEST, empty(NEST)), '{list: [], of: <box({a: 0, b: ""})>, tree: <<[]>>}')

    def test_read_back(self):
        for kind, text, value in WRITTEN:
            self.assertEqual(read_value(kind, written_value(kind, value)), value)
            self.assertEqual(read_value(("tree", kind), written_value(("tree", kind), (value, [(value, [])]))), (value, [(value, [])]))
            around = record_of([("x", kind), ("y", either_of([("z", kind)]))])
            held = {"x": value, "y": ("z", value)}
            self.assertEqual(read_value(around, written_value(around, held)), held)
            self.assertEqual(read_kind(written_kind(around)), around)

    def test_sixty_of_each(self):
        rows = [{"id": 10 ** 59 + number, "name": "w" * 40} for number in range(60)]
        self.assertEqual(read_value(PEOPLE, written_value(PEOPLE, rows)), rows)
        wide = (0, [(number, []) for number in range(59)])
        self.assertEqual(read_value(("tree", N), written_value(("tree", N), wide)), wide)
        deep = (59, [])
        for number in range(58, -1, -1):
            deep = (number, [deep])
        self.assertEqual(read_value(("tree", N), written_value(("tree", N), deep)), deep)
        self.assertEqual(written_value(("tree", N), deep)[:13], "<0: <1: <2: <")


if __name__ == "__main__":
    unittest.main()

import unittest

from notecase import NoteCase

from putback.kindnotes import read_kind, read_value, written_value
from putback.kinds import either_of, record_of, rows_of
from putback.signs import pieces_of

N = ("number",)
W = ("word",)
MARKS = "{}[]()<>:,"
NO_PIECE = "!#$&'*+./;=?@\\^_`|~ABCXYZ"


def sorts(text):
    return [(piece[0], piece[1]) for piece in pieces_of(text)]


class PiecesTest(NoteCase):
    def test_each_sort(self):
        self.assertEqual(sorts(""), [("end", "")])
        self.assertEqual(sorts("abc"), [("name", "abc"), ("end", "")])
        self.assertEqual(sorts("-12"), [("number", -12), ("end", "")])
        self.assertEqual(sorts('"a b"'), [("word", "a b"), ("end", "")])
        for mark in MARKS:
            self.assertEqual(sorts(mark), [("mark", mark), ("end", "")])

    def test_each_mark_runs_together_with_each(self):
        for one in MARKS:
            for other in MARKS:
                self.assertEqual(sorts(one + other), [("mark", one), ("mark", other), ("end", "")])

    def test_pieces_that_run_together(self):
        self.assertEqual(sorts('a1b-2"c"d"e""f"3<g>'), [
            ("name", "a"), ("number", 1), ("name", "b"), ("number", -2), ("word", "c"), ("name", "d"), ("word", "e"),
            ("word", "f"), ("number", 3), ("mark", "<"), ("name", "g"), ("mark", ">"), ("end", ""),
        ])
        self.assertEqual(sorts("1-2-3"), [("number", 1), ("number", -2), ("number", -3), ("end", "")])
        self.assertEqual(sorts("0a0"), [("number", 0), ("name", "a"), ("number", 0), ("end", "")])

    def test_blanks(self):
        self.assertEqual(sorts("    "), [("end", "")])
        self.assertEqual(sorts("  ab  c  1  2  "), [("name", "ab"), ("name", "c"), ("number", 1), ("number", 2), ("end", "")])
        self.assertEqual(sorts('" a  b "'), [("word", " a  b "), ("end", "")])

    def test_where_each_begins(self):
        text = ' ab {12:  "x y"} '
        self.assertEqual([piece[2] for piece in pieces_of(text)], [1, 4, 5, 7, 10, 15, 17])

    def test_nothing_behind_what_is_no_piece(self):
        self.assertEqual(sorts("a 007 b"), [("name", "a"), ("none", ""), ("end", "")])
        self.assertEqual(pieces_of("a 007 b")[1][2], 2)


class NameTest(NoteCase):
    def test_lengths(self):
        for length in (1, 2, 11, 12):
            name = "z" * length
            self.assertEqual(read_kind("{" + name + ": number}"), ("record", ((name, N),)))
        for length in (13, 14, 200):
            self.no_kind_text("{" + "z" * length + ": number}", 1)
            self.no_kind_text("{a: number, " + "z" * length + ": number}", 12)
        self.no_kind_text("numbernumbern", 0)

    def test_first_and_last_letters(self):
        self.assertEqual(read_kind("{az: number}"), record_of([("az", N)]))
        for name in ("aB", "a_b", "a.b", "a`", "a{", "a@"):
            self.no_kind_text("{" + name + ": number}", 2)

    def test_a_figure_ends_a_name(self):
        self.no_kind_text("{a1: number}", 2)
        self.no_kind_text("{aaaaaaaaaaaa1: number}", 13)


class NumberTest(NoteCase):
    def test_good_ones(self):
        for text, number in (
            ("0", 0), ("1", 1), ("9", 9), ("10", 10), ("-1", -1), ("-9", -9), ("-10", -10), ("100", 100), ("1234567890", 1234567890),
            ("9" * 60, 10 ** 60 - 1), ("9" * 80, 10 ** 80 - 1), ("-" + "9" * 80, 1 - 10 ** 80), ("1" + "0" * 79, 10 ** 79),
        ):
            self.assertEqual(read_value(N, text), number)
            self.assertEqual(read_value(N, "  " + text + " "), number)
            self.assertIs(read_value(N, text).__class__, int)

    def test_bad_ones(self):
        for text in (
            "00", "01", "-0", "-00", "-01", "-", "--1", "- 1", "-a", "-)", "000", "0123", "-" + "0" * 81, "9" * 81, "-" + "9" * 81,
            "1" + "0" * 80, "0" * 80, "9" * 500,
        ):
            self.no_value_text(N, text, 0)
            self.no_value_text(N, "   " + text + " ", 3)
            self.no_value_text(record_of([("a", N)]), "{a: " + text + "}", 4)

    def test_what_stands_behind(self):
        self.no_value_text(N, "5-", 1)
        self.no_value_text(N, "5 -", 2)
        self.no_value_text(N, "5-0", 1)
        self.no_value_text(N, "0 0", 2)
        self.no_value_text(N, "0-1", 1)
        self.no_value_text(N, "1.5", 1)
        self.no_value_text(N, "+5", 0)
        self.no_value_text(N, "1e5", 1)
        self.no_value_text(N, "1_0", 1)


class WordTest(NoteCase):
    def test_lengths(self):
        for length in (0, 1, 39, 40):
            self.assertEqual(read_value(W, '"' + "w" * length + '"'), "w" * length)
            self.assertEqual(read_value(W, '"' + " " * length + '"'), " " * length)
        for length in (41, 42, 100):
            self.no_value_text(W, '"' + "w" * length + '"', 0)
            self.no_value_text(W, '  "' + "w" * length + '"', 2)

    def test_every_sign(self):
        signs = [chr(code) for code in range(ord(" "), ord("~") + 1) if chr(code) not in '%"']
        for sign in signs:
            self.assertEqual(read_value(W, '"' + sign + '"'), sign)
            self.assertEqual(read_value(W, written_value(W, sign * 40)), sign * 40)

    def test_not_closed(self):
        self.no_value_text(W, '"', 0)
        self.no_value_text(W, '"abc', 0)
        self.no_value_text(W, ' "abc ', 1)
        self.no_value_text(W, '"' + "w" * 41, 0)
        self.no_value_text(rows_of("a", "", [("a", W)]), '[{a: "x"}, {a: "y}]', 15)

    def test_one_quote_too_many(self):
        self.no_value_text(W, '"a"b"', 3)
        self.no_value_text(W, '"a"""', 3)
        self.no_value_text(W, '"""', 2)
        self.no_value_text(W, "'a'", 0)

    def test_a_long_word_and_a_quote_behind(self):
        # The first one ends at the next quote, whatever comes behind it.
        self.no_value_text(W, '"' + "w" * 41 + '" "a"', 0)
        self.no_value_text(W, '"a" "' + "w" * 41 + '"', 4)


class NoPieceTest(NoteCase):
    def test_each_sign_alone_and_among_others(self):
        for sign in NO_PIECE + "-":
            self.no_kind_text(sign, 0)
            self.no_kind_text("  " + sign, 2)
            self.no_kind_text("number" + sign, 6)
            self.no_kind_text("number " + sign, 7)
            self.no_kind_text("{a" + sign + ": number}", 2)
            self.no_kind_text("{a: " + sign + " number}", 4)
            self.no_value_text(N, sign, 0)
            self.no_value_text(N, "5" + sign, 1)
            self.no_value_text(rows_of("a", "", [("a", N)]), "[{a: 1}" + sign + ", {a: 2}]", 7)

    def test_only_a_blank_is_passed_over(self):
        for sign in "\n\t\r\f\v\u00a0":
            self.no_kind_text(sign + "number", 0)
            self.no_kind_text("number" + sign, 6)

    def test_signs_of_other_tongues(self):
        self.no_value_text(N, "\u0665", 0)
        self.no_value_text(N, "5\u0665", 1)
        self.no_value_text(N, "\u00b2", 0)
        self.no_kind_text("{\u00e9: number}", 1)
        self.no_kind_text("{a\u00e9: number}", 2)


class FirstFaultTest(NoteCase):
    def test_what_is_no_piece_ahead_of_what_can_not_stand(self):
        self.no_kind_text("{a: 007 number}", 4)
        self.no_kind_text("{a: number ! }}", 11)
        self.no_value_text(N, "! number", 0)

    def test_what_can_not_stand_ahead_of_what_is_no_piece(self):
        self.no_kind_text("{a: } 007", 4)
        self.no_kind_text("number number !", 7)
        self.no_value_text(N, '"x" "', 0)
        self.no_value_text(W, "number !", 0)
        self.no_value_text(rows_of("a", "", [("a", N)]), "[{b: 00}]", 2)

    def test_two_of_one_sort(self):
        self.no_kind_text("{a: 00, b: 00}", 4)
        self.no_kind_text("{a: ! ?", 4)
        self.no_kind_text("{a: : :", 4)

    def test_more_is_wanted_at_the_length(self):
        self.no_kind_text("{a:", 3)
        self.no_kind_text("{a:   ", 6)
        self.no_kind_text("   ", 3)
        self.no_value_text(N, "", 0)
        self.no_value_text(N, "  ", 2)
        self.no_value_text(W, "", 0)
        self.no_value_text(either_of([("a", N)]), "a(5  ", 5)


class BoundsTest(NoteCase):
    def test_a_text_of_twenty_thousand_signs(self):
        rows = [{"id": number} for number in range(1700)]
        kind = rows_of("id", "", [("id", N)])
        text = written_value(kind, rows)
        text = "[" + " " * (20000 - len(text)) + text[1:]
        self.assertEqual(len(text), 20000)
        self.assertEqual(read_value(kind, text), rows)
        self.no_value_text(kind, text[:-1], 19999)
        self.no_value_text(kind, text[:-1] + "}", 19999)
        self.no_value_text(kind, text[:-1] + "!", 19999)
        self.no_value_text(kind, "[" + "{" * 19999, 2)
        self.no_kind_text("tree " * 4000, 20000)
        self.no_kind_text("tree " * 3999 + "word:", 19999)
        self.no_kind_text("a" * 20000, 0)
        self.no_value_text(N, "1" * 20000, 0)
        self.no_value_text(W, '"' * 20000, 2)
        self.assertEqual(read_value(N, " " * 19999 + "7"), 7)

    def test_a_hundred_brackets(self):
        self.no_kind_text("{a:" * 100, 300)
        self.no_kind_text("either{a:" * 100 + "]", 900)
        self.no_kind_text("rows a{a:" * 100 + "]", 900)
        self.no_kind_text("tree{a:" * 100 + "]", 700)
        self.no_kind_text("{a:" * 100 + "number" + "}" * 101, 406)
        self.no_value_text(("tree", N), "<1:" * 100 + "]", 300)
        self.no_value_text(("tree", N), "<1:" * 99 + "<1" + ">" * 101, 399)
        self.assertEqual(read_value(("tree", N), "<1:" * 59 + "<1" + ">" * 60), deep(60))


def deep(count):
    return (1, [] if count == 1 else [deep(count - 1)])


if __name__ == "__main__":
    unittest.main()

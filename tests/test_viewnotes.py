"""Views in writing: read and written."""

import unittest

from notecase import VIEW_GRAMMAR, NoteCase, fault, pieces_in, places, spaced_out, spoiled_rows, texts_near, tight, told_of
from viewpool import VIEWS

from putback.choices import Case, Choose
from putback.fields import At, Nest, Rename, Take, Unnest, Within
from putback.joins import Join
from putback.tables import Beside, Each, Group, Keep, Order
from putback.trees import Boughs, Top, Unroll
from putback.viewnotes import read_view, written_view
from putback.views import Chain, View

SOME = ("some", ("a",))
TAKE = Chain([Take(["a"])])
NONE = Chain([])

STEPS = [
    ("same", View()),
    ("take [a, b]", Take(["a", "b"])),
    ("take [a]", Take(["a"])),
    ("take []", Take([])),
    ("take [b, a, b]", Take(["b", "a", "b"])),
    ("rename a as b", Rename("a", "b")),
    ("rename a as a", Rename("a", "a")),
    ("nest [a, b] as c", Nest(["a", "b"], "c")),
    ("nest [] as c", Nest([], "c")),
    ("unnest a", Unnest("a")),
    ("within a (take [a])", Within("a", TAKE)),
    ("within a ()", Within("a", NONE)),
    ("within a (same)", Within("a", Chain([View()]))),
    ("within a (())", Within("a", Chain([NONE]))),
    ("within a (at b then within c (top))", Within("a", Chain([At("b"), Within("c", Chain([Top()]))]))),
    ("at a", At("a")),
    ("keep (some [a])", Keep(SOME)),
    ("keep (not (some [a]))", Keep(("not", SOME))),
    ('keep (and (less [a] 5) (same [b] "x"))', Keep(("and", ("less", ("a",), 5), ("same", ("b",), "x")))),
    ("order [a]", Order("a")),
    ("order []", Order("")),
    ("order []", Order()),
    ("each (take [a])", Each(TAKE)),
    ("each ()", Each(NONE)),
    ("beside a as b with c", Beside("a", "b", "c")),
    ("group a as b", Group("a", "b")),
    ("join a with b on c", Join("a", "b", "c")),
    ("top", Top()),
    ("boughs (take [a])", Boughs(TAKE)),
    ("boughs ()", Boughs(NONE)),
    ("unroll [a, b, c]", Unroll("a", "b", "c")),
    ("unroll [c, b, a]", Unroll("c", "b", "a")),
    ("case a (take [a])", Case("a", TAKE)),
    ("case a ()", Case("a", NONE)),
    ("choose (some [a]) (take [a]) ()", Choose(SOME, TAKE, NONE)),
    ("choose (is [] b) () (same)", Choose(("is", (), "b"), NONE, Chain([View()]))),
    ("choose (or (some [a]) (some [a])) (at a then top) (choose (some [a]) () ())",
     Choose(("or", SOME, SOME), Chain([At("a"), Top()]), Chain([Choose(SOME, NONE, NONE)]))),
    ("()", NONE),
    ("(same)", Chain([View()])),
    ("(take [a])", TAKE),
    ("((take [a]) then ())", Chain([TAKE, NONE])),
    ("(at a then at b)", Chain([At("a"), At("b")])),
]

ODD_NAMES = [
    ("take [as, then, on, by, not, with]", Take(["as", "then", "on", "by", "not", "with"])),
    ("take [take, same, top, order, at]", Take(["take", "same", "top", "order", "at"])),
    ("rename as as as", Rename("as", "as")),
    ("rename rename as then", Rename("rename", "then")),
    ("nest [nest, as] as as", Nest(["nest", "as"], "as")),
    ("unnest then", Unnest("then")),
    ("within within (at then)", Within("within", Chain([At("then")]))),
    ("at at", At("at")),
    ("at then", At("then")),
    ("keep (is [is, not] and)", Keep(("is", ("is", "not"), "and"))),
    ("order [order]", Order("order")),
    ("order [then]", Order("then")),
    ("beside as as as with as", Beside("as", "as", "as")),
    ("beside with as with with with", Beside("with", "with", "with")),
    ("group group as as", Group("group", "as")),
    ("join with with with on with", Join("with", "with", "with")),
    ("join on with on on on", Join("on", "on", "on")),
    ("unroll [unroll, top, as]", Unroll("unroll", "top", "as")),
    ("case case (unnest as)", Case("case", Chain([Unnest("as")]))),
    ("case then (case on ())", Case("then", Chain([Case("on", NONE)]))),
    ("take [number, word, rows, tree, either, by]", Take(["number", "word", "rows", "tree", "either", "by"])),
    ("rename abcdefghijkl as lkjihgfedcba", Rename("abcdefghijkl", "lkjihgfedcba")),
]

WORDS = """
same take rename nest unnest within at keep order each beside group join top boughs unroll case choose then as with on by
less is some not and or number word rows tree either a
""".split()
MARKS = ["{", "}", "[", "]", "(", ")", "<", ">", ":", ","]
STEP_WORDS = WORDS[:18]


def chains():
    """Some chains of the steps, each step ahead of and behind others."""
    told = [("", NONE)] + [(text, Chain([step])) for text, step in STEPS + ODD_NAMES]
    for number, (text, step) in enumerate(STEPS + ODD_NAMES):
        other, later = (STEPS + ODD_NAMES)[-1 - number], (STEPS + ODD_NAMES)[number // 2]
        told.append((text + " then " + other[0], Chain([step, other[1]])))
        told.append((" then ".join([later[0], text, other[0]]), Chain([later[1], step, other[1]])))
    twelve = (STEPS * 2)[20:32]
    told.append((" then ".join([text for text, step in twelve]), Chain([step for text, step in twelve])))
    return told


class ReadViewTest(NoteCase):
    def reads(self, text, view):
        read = read_view(text)
        self.assertIs(read.__class__, Chain)
        self.assertEqual(told_of(read), told_of(view), text)

    def test_each_step_and_chains_of_them(self):
        for text, chain in chains():
            self.reads(text, chain)

    def test_no_step_at_all(self):
        for text in ("", " ", "     "):
            self.reads(text, NONE)
        self.reads("()", Chain([NONE]))
        self.reads("( )", Chain([NONE]))
        self.reads("() then ()", Chain([NONE, NONE]))
        self.reads("(((())))", Chain([Chain([Chain([Chain([NONE])])])]))

    def test_blanks_or_none(self):
        for text, chain in chains():
            pieces = pieces_in(text)
            self.reads("  " + "   ".join(pieces) + "    ", chain)
            self.reads(tight(pieces), chain)

    def test_inner_views_are_chains(self):
        for text, view in STEPS:
            for name in ("inner", "yes", "no"):
                if name in vars(view):
                    self.assertIs(vars(read_view(text).steps[0])[name].__class__, Chain)

    def test_lists_are_their_own(self):
        one, other = read_view("take [a, b]"), read_view("take [a, b]")
        one.steps[0].names.append("c")
        one.steps.append(View())
        self.assertEqual(told_of(other), told_of(Chain([Take(["a", "b"])])))
        self.assertEqual(told_of(read_view("take [a, b]")), told_of(other))


class NoViewTextTest(NoteCase):
    def test_more_is_wanted(self):
        for text in (
            "take", "take [", "take [a", "take [a,", "rename", "rename a", "rename a as", "nest", "nest [a]", "nest [] as", "unnest",
            "within", "within a", "within a (", "within a (same", "within a (same then", "at", "keep", "keep (", "keep (some",
            "keep (some [a]", "order", "order [", "order [a", "each", "each (", "each (each ()", "beside", "beside a", "beside a as",
            "beside a as b", "beside a as b with", "group", "group a", "group a as", "join", "join a", "join a with", "join a with b",
            "join a with b on", "boughs", "boughs (", "unroll", "unroll [", "unroll [a", "unroll [a,", "unroll [a, b", "unroll [a, b,",
            "unroll [a, b, c", "case", "case a", "case a (", "choose", "choose (", "choose (some [a])", "choose (some [a]) (",
            "choose (some [a]) ()", "choose (some [a]) () (", "(", "((", "(()", "(same", "(same then", "same then", "() then",
            "top then top then",
        ):
            self.no_view_text(text, len(text))
            self.no_view_text(text + "  ", len(text) + 2)
            self.no_view_text("top then " + text, len(text) + 9)
            self.no_view_text("each (" + text, len(text) + 6)

    def test_each_text_cut_short(self):
        """Ahead of a step's last piece more is wanted, but where what is left is a whole text by itself."""
        for text, step in STEPS + ODD_NAMES:
            pieces = pieces_in(text)
            for count in range(1, len(pieces)):
                short, begins = places(pieces[:count], [0, 1])
                wrong = fault(VIEW_GRAMMAR, "CHAIN", pieces[:count])
                self.assertIn(wrong, [count, None])
                if wrong is not None:
                    self.no_view_text(short, len(short))

    def test_what_can_not_begin_a_step(self):
        for piece in WORDS[18:] + ["5", "-5", '"same"', "{", "}", "[", "]", "<", ">", ":", ",", "tops", "takes"]:
            self.no_view_text(piece, 0)
            self.no_view_text("   " + piece, 3)
            self.no_view_text("(" + piece, 1)
            self.no_view_text("same then " + piece, 10)
            self.no_view_text("case a (same then " + piece, 18)

    def test_then(self):
        self.no_view_text("then", 0)
        self.no_view_text("then same", 0)
        self.no_view_text("same then", 9)
        self.no_view_text("same then )", 10)
        self.no_view_text("same then then", 10)
        self.no_view_text("same then then same", 10)
        self.no_view_text("(then)", 1)
        self.no_view_text("(same then)", 10)
        self.no_view_text("each (then same)", 6)
        self.no_view_text("each () then", 12)
        self.no_view_text("same same", 5)
        self.no_view_text("() ()", 3)
        self.no_view_text("take [a] take [b]", 9)
        self.no_view_text("take [a], take [b]", 8)
        self.no_view_text("at then then", 12)
        self.no_view_text("at a then at", 12)

    def test_names_in_order_and_unroll(self):
        self.no_view_text("order a", 6)
        self.no_view_text("order [a, b]", 8)
        self.no_view_text("order [a b]", 9)
        self.no_view_text("order [,]", 7)
        self.no_view_text("order [a,]", 8)
        self.no_view_text("order then same", 6)
        self.no_view_text("order", 5)
        self.no_view_text("order [5]", 7)
        self.no_view_text('order [""]', 7)
        self.no_view_text("unroll []", 8)
        self.no_view_text("unroll [a]", 9)
        self.no_view_text("unroll [a, b]", 12)
        self.no_view_text("unroll [a, b, c, d]", 15)
        self.no_view_text("unroll [a, b, c d]", 16)
        self.no_view_text("unroll [a b c]", 10)
        self.no_view_text("unroll [a, b,]", 13)
        self.no_view_text("unroll a", 7)
        self.no_view_text("unroll [a, 5, c]", 11)

    def test_lists_of_names(self):
        self.no_view_text("take a", 5)
        self.no_view_text("take (a)", 5)
        self.no_view_text("take [a b]", 8)
        self.no_view_text("take [a,, b]", 8)
        self.no_view_text("take [a, b,]", 11)
        self.no_view_text("take [[a]]", 6)
        self.no_view_text("take [7]", 6)
        self.no_view_text("nest a as b", 5)
        self.no_view_text("nest [a] in b", 9)
        self.no_view_text("nest [a] as [b]", 12)

    def test_words_between_names(self):
        self.no_view_text("rename a b", 9)
        self.no_view_text("rename a to b", 9)
        self.no_view_text('rename a "as" b', 9)
        self.no_view_text("rename [a] as b", 7)
        self.no_view_text("beside a with b as c", 9)
        self.no_view_text("beside a as b as c", 14)
        self.no_view_text("group a on b", 8)
        self.no_view_text("join a on b with c", 7)
        self.no_view_text("join a with b with c", 14)
        self.no_view_text("unnest [a]", 7)
        self.no_view_text("at [a]", 3)
        self.no_view_text("at 5", 3)
        self.no_view_text("at a b", 5)

    def test_inner_views_and_looks(self):
        self.no_view_text("within (same)", 7)
        self.no_view_text("within a same", 9)
        self.no_view_text("within a [same]", 9)
        self.no_view_text("within a (same) (same)", 16)
        self.no_view_text("each same", 5)
        self.no_view_text("each (same", 10)
        self.no_view_text("each (same, same)", 10)
        self.no_view_text("keep some [a]", 5)
        self.no_view_text("keep ()", 6)
        self.no_view_text("keep (same)", 10)
        self.no_view_text("keep (take [a])", 6)
        self.no_view_text("keep ((some [a]))", 6)
        self.no_view_text("choose () () ()", 8)
        self.no_view_text("choose (some [a]) (some [a]) ()", 19)
        self.no_view_text("choose (some [a]), (), ()", 17)
        self.no_view_text("choose (some [a]) () () ()", 24)
        self.no_view_text("case (same)", 5)
        self.no_view_text("boughs top", 7)
        self.no_view_text("same [a] 5", 5)
        self.no_view_text("same ()", 5)
        self.no_view_text("top ()", 4)
        self.no_view_text(")", 0)
        self.no_view_text("())", 2)
        self.no_view_text("(same))", 6)

    def test_a_piece_behind_a_whole_text(self):
        for text, chain in chains():
            for piece in WORDS + MARKS + ["5", '"a"', "-1", "!", "00"]:
                if piece != "then" and (text != "" or piece not in STEP_WORDS + ["("]):
                    self.no_view_text(text + " " + piece, len(text) + 1)

    def test_what_is_no_piece(self):
        for bad in ("!", "007", "-0", "-", "a" * 13, "1" * 81, '"x', '"' + "x" * 41 + '"', "A", "_"):
            self.no_view_text(bad, 0)
            self.no_view_text("take [a, " + bad, 9)
            self.no_view_text("same then " + bad, 10)
            self.no_view_text("same " + bad, 5)
            self.no_view_text("each (" + bad, 6)
            self.no_view_text("rename a b " + bad, 9)
        self.no_view_text("same_", 4)
        self.no_view_text("take [a_]", 7)

    def test_every_text_of_few_pieces(self):
        """For each step the pieces that it is written with, and some more."""
        good = 0
        for form in VIEW_GRAMMAR["STEP"]:
            words = [piece for piece in form if piece.islower()]
            alphabet = sorted(set(words + ["then", "top", "a", "5", "(", ")", "[", "]", ","]))
            if "INNER" in form:
                alphabet += ["some", "not"]
            for number, pieces in enumerate(texts_near(VIEW_GRAMMAR, "CHAIN", alphabet, 6 if len(alphabet) > 10 else 7)):
                good += self.read_or_no_text(number, pieces)
        self.assertGreater(good, 2000)

    def test_every_piece_behind_every_beginning(self):
        """All words and marks behind each beginning of each step."""
        for text, step in STEPS + ODD_NAMES:
            pieces = pieces_in(text)
            for count in range(len(pieces)):
                for number, piece in enumerate(WORDS + MARKS + ["5", '"x"']):
                    self.read_or_no_text(number, pieces[:count] + [piece])

    def test_a_piece_out_of_place_anywhere(self):
        for text in (
            "within a (take [b, c] then order [d]) then choose (some [a]) () (unroll [a, b, c])",
            'keep (and (less [a] 5) (is [] b)) then (join a with b on c then top)',
        ):
            for number, pieces in enumerate(spoiled_rows(pieces_in(text), WORDS + MARKS + ["5", '"x"'])):
                self.read_or_no_text(number, pieces)

    def read_or_no_text(self, number, pieces):
        text, begins = places(pieces, [[0], [1, 2], [3, 0]][number % 3])
        wrong = fault(VIEW_GRAMMAR, "CHAIN", pieces)
        if wrong is None:
            self.assertEqual(pieces_in(written_view(read_view(text))), pieces)
            return 1
        self.no_view_text(text, (begins + [len(text)])[wrong])
        return 0


class WrittenViewTest(NoteCase):
    def test_each_step_and_chains_of_them(self):
        for text, chain in chains():
            self.assertEqual(written_view(chain), text)

    def test_a_view_that_is_no_chain(self):
        for text, step in STEPS + ODD_NAMES:
            if step.__class__ != Chain:
                self.assertEqual(written_view(step), text)
                self.assertEqual(written_view(Chain([step])), text)
                self.assertEqual(written_view(Chain([Chain([step])])), "(" + text + ")")
                self.assertEqual(written_view(Within("a", step)), "within a (" + text + ")")
                self.assertEqual(written_view(Within("a", Chain([step]))), "within a (" + text + ")")
                self.assertEqual(written_view(Each(step)), "each (" + text + ")")
                self.assertEqual(written_view(Boughs(step)), "boughs (" + text + ")")
                self.assertEqual(written_view(Case("b", step)), "case b (" + text + ")")
                self.assertEqual(written_view(Choose(SOME, step, View())), "choose (some [a]) (" + text + ") (same)")
                self.assertEqual(written_view(Choose(SOME, NONE, step)), "choose (some [a]) () (" + text + ")")

    def test_chains(self):
        self.assertEqual(written_view(NONE), "")
        self.assertEqual(written_view(Chain([NONE])), "()")
        self.assertEqual(written_view(Chain([NONE, NONE])), "() then ()")
        self.assertEqual(written_view(Chain([Chain([NONE])])), "(())")
        self.assertEqual(written_view(Chain([View(), Chain([Top(), At("a")]), View()])), "same then (top then at a) then same")
        self.assertEqual(written_view(Within("a", Chain([Chain([Top()]), Top()]))), "within a ((top) then top)")
        self.assertEqual(written_view(Within("a", NONE)), "within a ()")

    def test_blank_by_blank(self):
        for text, view in chains() + [("", view) for view in VIEWS]:
            told = written_view(view)
            self.assertEqual(told, spaced_out(pieces_in(told)))

    def test_read_back(self):
        for view in VIEWS + [Chain(VIEWS[number:number + 12]) for number in range(len(VIEWS))]:
            text = written_view(view)
            self.assertEqual(written_view(read_view(text)), text)

    def test_a_view_stays_as_it_is(self):
        for text, view in STEPS:
            held = told_of(view)
            written_view(view)
            self.assertEqual(told_of(view), held)


class BoundsTest(NoteCase):
    def same_again(self, text):
        self.assertEqual(written_view(read_view(text)), text)

    def test_a_hundred_brackets(self):
        self.same_again("(" * 100 + ")" * 100)
        self.same_again("(" * 100 + "take [a]" + ")" * 100)
        self.same_again("each (" * 10 + "(" * 90 + "same" + ")" * 100)
        self.same_again("each (" * 100 + ")" * 100)
        self.same_again("keep (" + "not (" * 99 + "some [a]" + ")" * 100)
        self.same_again("(" * 50 + "choose (some [a]) (" * 50 + "top" + ") ()" * 50 + ")" * 50)
        self.no_view_text("(" * 100, 100)
        self.no_view_text("(" * 100 + ")" * 99, 199)
        self.no_view_text("(" * 100 + ")" * 101, 200)
        self.no_view_text("(" * 99 + "take [", 105)
        self.no_view_text("within a (" * 100 + "]", 1000)

    def test_a_text_of_twenty_thousand_signs(self):
        names = ", ".join(["abcdefghijkl"] * 12)
        text = " then ".join(["take [" + names + "]", "nest [" + names + "] as a"] * 6)
        text = "each (" * 10 + text + ")" * 10
        text = " " * (20000 - len(text)) + text
        self.assertEqual(written_view(read_view(text)), text.strip())
        self.no_view_text(text[:-1], 19999)
        self.no_view_text(text[:-1] + "]", 19999)
        self.no_view_text(text[:-1] + "!", 19999)
        self.assertEqual(written_view(read_view(" " * 20000)), "")
        looks = "(less [abcdefghijkl, abcdefghijkl] 5)"
        for count in range(9):
            looks = "(and " + looks + " " + looks + ")"
        self.assertLess(len(looks), 23000)
        self.same_again("keep " + looks)


if __name__ == "__main__":
    unittest.main()

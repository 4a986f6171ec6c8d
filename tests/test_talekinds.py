"""Kinds of parts, of any thing."""

import unittest

from forktales.talekinds import is_deed, is_next, is_piece, is_sum, is_test, is_word
from tests import plainkinds
from tests.helpers import STRANGE, WRONG_WORDS, bent, deep, told

N = ("num", 4)
T = ("all", ())
X = ("text", "x")

WORDS = ("a", "z", "hall", "abcdefgh", "num", "all", "back", "is", "zzzzzzzz")

SUMS = (
    ("num", 0), ("num", -7), ("num", 10 ** 60 - 1), ("num", 1 - 10 ** 60), ("of", "gold"), ("of", "num"),
    ("seen", "hall"), ("plus", N, N), ("minus", ("plus", ("of", "a"), N), ("seen", "b")),
    ("plus", N, ("minus", N, ("minus", N, N))),
)

TESTS = (
    ("is", N, "<", N), ("is", N, "=", ("of", "a")), ("is", ("seen", "a"), ">", ("plus", N, N)),
    ("at", "ann", "yard"), ("with", "ann", "bob"), ("with", "ann", "ann"), ("not", T), ("all", ()), ("any", ()),
    ("all", (T,)), ("any", (("at", "a", "b"), ("not", ("any", ())), ("all", (T, T, T)))),
)

PIECES = (
    ("text", ""), ("text", " "), ("text", "a b"), ("text", "Wait! {x} ~ \\ \" ' 0"), ("worth", N),
    ("worth", ("minus", N, ("of", "a"))), ("place", "ann"), ("if", T, (), ()), ("if", T, (X,), (("end",), X)),
    ("only", "ann", ()), ("only", "ann", (("only", "bob", (X,)),)), ("end",), ("glue",),
    ("if", T, (("if", ("not", T), (), (("only", "cat", (("glue",),)),)),), ()),
)

DEEDS = (
    ("set", "gold", ("plus", ("of", "gold"), N)), ("draw", "gold"), ("go", "ann", "yard"), ("put", "ann", "yard"),
    ("join", "ann", "bob"), ("leave", "ann"),
)

NEXTS = (("to", "hall"), ("into", "hall", "yard"), ("into", "hall", "hall"), ("back",))

KINDS = (
    (is_word, WORDS, plainkinds.word),
    (is_sum, SUMS, plainkinds.some_sum),
    (is_test, TESTS, plainkinds.some_test),
    (is_piece, PIECES, plainkinds.some_piece),
    (is_deed, DEEDS, plainkinds.some_deed),
    (is_next, NEXTS, plainkinds.some_next),
)

NONE_AT_ALL = STRANGE + (
    deep((), 29), deep([], 29), deep("num", 30), [()], ((),), ("num",), ("num", 1, 2), ("end", None), ("back", ()),
    ((), "num"), (["num"], 1), (None, 1), (True, 1), (1, "num"), ("text",), ("all",), ("if",), ("to",),
)


class Kinds(unittest.TestCase):
    def test_each_one_is_one(self):
        for kind, things, _ in KINDS:
            for thing in things:
                with self.subTest(kind.__name__, thing=thing):
                    self.assertIs(told(kind, thing=thing), True)

    def test_what_is_no_part_at_all(self):
        for kind, _, plain in KINDS:
            for thing in NONE_AT_ALL:
                with self.subTest(kind.__name__, thing=thing):
                    self.assertIs(told(kind, thing=thing), plain(thing))

    def test_the_bent_ones(self):
        for kind, things, plain in KINDS:
            for thing in things:
                for other in bent(thing):
                    self.assertIs(kind(other), plain(other), (kind.__name__, other))

    def test_parts_of_other_kinds(self):
        for kind, _, plain in KINDS:
            for _, things, _ in KINDS:
                for thing in things:
                    self.assertIs(kind(thing), plain(thing), (kind.__name__, thing))
                    self.assertIs(kind((thing,)), plain((thing,)))
                    self.assertIs(kind([thing]), False)

    def test_kinds_do_not_lie_in_one_another(self):
        self.assertIs(is_sum(("of", ("of", "a"))), False)
        self.assertIs(is_test(("not", N)), False)
        self.assertIs(is_test(("is", T, "<", N)), False)
        self.assertIs(is_test(("all", (N,))), False)
        self.assertIs(is_piece(("if", N, (), ())), False)
        self.assertIs(is_piece(("if", T, (T,), ())), False)
        self.assertIs(is_piece(("if", T, (), (T,))), False)
        self.assertIs(is_piece(("worth", T)), False)
        self.assertIs(is_deed(("set", "a", T)), False)


class Edges(unittest.TestCase):
    def test_words_of_none_and_of_nine_letters(self):
        self.assertIs(is_word(""), False)
        self.assertIs(is_word("abcdefghi"), False)
        self.assertIs(is_word("abcdefgh"), True)
        for word in WRONG_WORDS:
            self.assertIs(is_word(word), False, word)

    def test_names_that_are_none(self):
        for word in WRONG_WORDS + (None, 1, True, (), ("a",), ["a"]):
            for thing in (("of", word), ("seen", word)):
                self.assertIs(is_sum(thing), False, thing)
            for thing in (("at", word, "a"), ("at", "a", word), ("with", word, "a"), ("with", "a", word)):
                self.assertIs(is_test(thing), False, thing)
            for thing in (("place", word), ("only", word, ())):
                self.assertIs(is_piece(thing), False, thing)
            for thing in (
                ("set", word, N), ("draw", word), ("go", word, "a"), ("go", "a", word), ("put", word, "a"),
                ("put", "a", word), ("join", word, "a"), ("join", "a", word), ("leave", word),
            ):
                self.assertIs(is_deed(thing), False, thing)
            for thing in (("to", word), ("into", word, "a"), ("into", "a", word)):
                self.assertIs(is_next(thing), False, thing)

    def test_truths_are_no_numbers(self):
        for truth in (True, False):
            self.assertIs(is_sum(("num", truth)), False)
            self.assertIs(is_test(("is", ("num", truth), "<", N)), False)
            self.assertIs(is_piece(("worth", ("num", truth))), False)
            self.assertIs(is_deed(("set", "a", ("num", truth))), False)

    def test_lists_are_no_tuples(self):
        for thing in (["num", 1], ["end"], ("plus", ["num", 1], N), ["back"], ["all", ()]):
            for kind, _, _ in KINDS:
                self.assertIs(kind(thing), False, thing)
        self.assertIs(is_test(("all", [])), False)
        self.assertIs(is_test(("any", [T])), False)
        self.assertIs(is_piece(("if", T, [], ())), False)
        self.assertIs(is_piece(("if", T, (), [])), False)
        self.assertIs(is_piece(("only", "ann", [])), False)

    def test_texts_of_pieces(self):
        for text in ("a\n", "\n", "a\nb", "%", "50% off", "\t", "\r", "\x1f", "\x7f", "\u00e9", "\x00", None, 1, ("a",)):
            self.assertIs(is_piece(("text", text)), False, text)
        for code in range(32, 127):
            self.assertIs(is_piece(("text", chr(code))), code != 37, code)
        self.assertIs(is_piece(("text", "x" * 4000)), True)

    def test_signs(self):
        for sign in ("<=", ">=", "", "==", "!", "is", None, 0, ("<",), "<>", "<=>"):
            self.assertIs(is_test(("is", N, sign, N)), False, sign)

    def test_thirty_within_one_another(self):
        amount, test, piece = N, T, ("end",)
        for _ in range(29):
            amount = ("plus", amount, N)
            test = ("not", test)
        for _ in range(14):
            piece = ("only", "ann", (piece,))
        self.assertIs(is_sum(amount), True)
        self.assertIs(is_test(test), True)
        self.assertIs(is_piece(piece), True)
        self.assertIs(is_deed(("set", "a", amount)), True)

    def test_the_innermost_is_looked_at(self):
        amount, test, piece = ("num", True), ("all", []), ("text", "\n")
        for _ in range(14):
            amount = ("minus", N, amount)
            test = ("any", (T, test))
            piece = ("if", T, (), (("end",), piece))
        self.assertIs(is_sum(amount), False)
        self.assertIs(is_test(test), False)
        self.assertIs(is_piece(piece), False)

    def test_many_side_by_side(self):
        self.assertIs(is_test(("all", (T,) * 2000)), True)
        self.assertIs(is_test(("all", (T,) * 2000 + (N,))), False)
        self.assertIs(is_piece(("only", "a", (X,) * 2000)), True)
        self.assertIs(is_piece(("only", "a", (("text", "\n"),) + (X,) * 2000)), False)

    def test_words_that_no_part_begins_with(self):
        for word in ("", "Num", "sum", "else", "break", "done", "choice", "SUM", "count", "sign"):
            for kind, _, _ in KINDS[1:]:
                for rest in ((), ("a",), (1,), ("a", "b"), (N, N), ((),)):
                    self.assertIs(kind((word,) + rest), False)


if __name__ == "__main__":
    unittest.main()

"""SUMS and TESTS as words, STORIES as texts."""

import unittest

from forktales.storytexts import story_text, sum_words, test_words as words_of_test
from tests.helpers import told
from tests.samples import BIG, INN, INN_TEXT, VOID, VOID_TEXT, choice, scene, story

SUMS = (
    (("num", 0), "num 0"),
    (("num", 7), "num 7"),
    (("num", 10), "num 10"),
    (("num", -3), "num -3"),
    (("num", BIG), "num " + "9" * 60),
    (("num", -BIG), "num -" + "9" * 60),
    (("num", 10 ** 59), "num 1" + "0" * 59),
    (("of", "gold"), "of gold"),
    (("of", "plus"), "of plus"),
    (("seen", "hall"), "seen hall"),
    (("plus", ("num", 3), ("seen", "hall")), "plus num 3 seen hall"),
    (("minus", ("num", 3), ("num", 4)), "minus num 3 num 4"),
    (("minus", ("plus", ("of", "a"), ("of", "b")), ("of", "c")), "minus plus of a of b of c"),
    (("minus", ("of", "a"), ("plus", ("of", "b"), ("of", "c"))), "minus of a plus of b of c"),
)

TESTS = (
    (("is", ("of", "gold"), "<", ("plus", ("num", 3), ("seen", "hall"))), "is of gold < plus num 3 seen hall"),
    (("any", (("at", "ann", "yard"), ("not", ("all", ())))), "any 2 at ann yard not all 0"),
    (("is", ("num", 1), "=", ("num", 2)), "is num 1 = num 2"),
    (("is", ("plus", ("of", "a"), ("of", "b")), ">", ("num", -2)), "is plus of a of b > num -2"),
    (("at", "ann", "yard"), "at ann yard"),
    (("with", "ann", "bob"), "with ann bob"),
    (("not", ("with", "bob", "ann")), "not with bob ann"),
    (("all", ()), "all 0"),
    (("any", ()), "any 0"),
    (("all", (("any", ()),)), "all 1 any 0"),
    (("all", (("any", (("at", "a", "b"), ("at", "c", "d"))), ("at", "e", "f"))), "all 2 any 2 at a b at c d at e f"),
    (("any", (("all", ()),) * 12), "any 12" + " all 0" * 12),
)


class Words(unittest.TestCase):
    def test_sums(self):
        for amount, words in SUMS:
            with self.subTest(words):
                self.assertEqual(told(sum_words, amount=amount), words.split(" "))

    def test_tests(self):
        for test, words in TESTS:
            with self.subTest(words):
                self.assertEqual(told(words_of_test, test=test), words.split(" "))

    def test_the_lists_are_the_askers_own(self):
        amount, test = SUMS[-1][0], TESTS[-1][0]
        for function, thing in ((sum_words, amount), (words_of_test, test)):
            words = function(thing)
            self.assertIs(type(words), list)
            self.assertEqual({type(word) for word in words}, {str})
            before = list(words)
            words.clear()
            self.assertEqual(function(thing), before)

    def test_deep_ones(self):
        amount, test = ("num", 1), ("all", ())
        for _ in range(29):
            amount = ("plus", ("num", 2), amount)
            test = ("all", (test,))
        self.assertEqual(sum_words(amount), ["plus", "num", "2"] * 29 + ["num", "1"])
        self.assertEqual(words_of_test(test), ["all", "1"] * 29 + ["all", "0"])


class Texts(unittest.TestCase):
    def lines(self, *scenes, **more):
        return told(story_text, story=story(*scenes, **more)).split("\n")

    def test_a_story_with_each_sort_of_line(self):
        self.assertEqual(told(story_text, story=INN), INN_TEXT)

    def test_the_void_one(self):
        self.assertEqual(told(story_text, story=VOID), VOID_TEXT)

    def test_lines_ahead_of_scenes(self):
        lines = self.lines(
            numbers=(("a", -1, 0, 0), ("b", 10, 20, 15), ("c", -BIG, BIG, BIG)),
            places=("x", "y", "z"), doors=(("x", "y"), ("x", "z"), ("p", "q")), figures=(("f", "x"), ("g", "x")),
            digits=(0, 9, 0), begin="none",
        )
        self.assertEqual(lines, [
            "number a -1 0 0", "number b 10 20 15", "number c -" + "9" * 60 + " " + "9" * 60 + " " + "9" * 60,
            "place x", "place y", "place z", "door x y", "door x z", "door p q", "figure f x", "figure g x",
            "digits 0 9 0", "begin none",
        ])

    def test_scenes(self):
        lines = self.lines(scene("b"), scene("a", woven=("c", "b", "a")), scene("c", ending="good"),
                           scene("d", woven=("a",), ending="d"))
        self.assertEqual(lines, [
            "digits", "begin a", "scene a", "woven c b a", "scene b", "scene c", "ending good",
            "scene d", "woven a", "ending d",
        ])

    def test_choices(self):
        free = choice("z", ("to", "a"))
        once = choice("b", ("into", "a", "b"), once=True, label=(("text", "go"),), test=("at", "f", "x"),
                      deeds=(("draw", "a"),))
        many = choice("c", deeds=(("leave", "f"), ("set", "a", ("minus", ("num", 0), ("num", -1))), ("put", "f", "x")))
        lines = self.lines(scene("a", choices=(free, once, many), woven=("a",)))
        self.assertEqual(lines[2:], [
            "scene a", "choice z", "when all 0", "to a", "once b", "text go", "when at f x", "draw a", "into a b",
            "choice c", "when all 0", "leave f", "set a minus num 0 num -1", "put f x", "back", "woven a",
        ])

    def test_pieces(self):
        pieces = (
            ("text", ""), ("text", " "), ("text", "a  b "), ("text", "text"), ("worth", ("of", "a")),
            ("place", "f"), ("end",), ("glue",), ("end",),
            ("if", ("any", ()), (), ()),
            ("if", ("any", ()), (("end",), ("glue",)), (("glue",), ("end",))),
            ("only", "r", ()),
            ("only", "r", (("only", "s", (("end",),)), ("if", ("all", ()), (("only", "t", ()),), ()))),
        )
        lines = self.lines(scene("a", pieces=pieces))
        self.assertEqual(lines[3:], [
            "text ", "text  ", "text a  b ", "text text", "worth of a", "place f", "break", "glue", "break",
            "if any 0", "else", "done",
            "if any 0", "break", "glue", "else", "glue", "break", "done",
            "only r", "done",
            "only r", "only s", "break", "done", "if all 0", "only t", "done", "else", "done", "done",
        ])

    def test_labels(self):
        label = (("if", ("any", ()), (("if", ("all", ()), (), (("text", "x"),)),), (("place", "f"),)), ("end",))
        lines = self.lines(scene("a", choices=(choice("b", label=label),)))
        self.assertEqual(lines[3:], [
            "choice b", "if any 0", "if all 0", "else", "text x", "done", "else", "place f", "done", "break",
            "when all 0", "back",
        ])

    def test_what_is_named_need_not_be_there(self):
        lines = self.lines(scene("a", pieces=(("worth", ("seen", "none")),), woven=("gone",)), begin="nowhere",
                           figures=(("f", "off"),), doors=(("p", "q"),))
        self.assertEqual(lines, [
            "door p q", "figure f off", "digits", "begin nowhere", "scene a", "worth seen none", "woven gone",
        ])


if __name__ == "__main__":
    unittest.main()

"""STORIES read from texts."""

import unittest

from forktales.errors import NoText
from forktales.scenekinds import is_story
from forktales.storyreadings import story_read
from forktales.storytexts import story_text
from tests import slowreading
from tests.helpers import found, refusal, same, told
from tests.samples import BIG, INN, INN_TEXT, SMALL, SMALL_TEXT, VOID, VOID_TEXT, choice, scene, story

HEAD = "digits\nbegin a\n"
CHOICE = HEAD + "scene a\nchoice b\n"
WHEN = CHOICE + "when "
LINES = INN_TEXT.split("\n")

# What is put in between the lines of a text, and in the stead of each.
OTHER_LINES = (
    "", " ", "number zoo 0 1 0", "number a 0 1 0", "place a", "place ann", "place zoo", "door a b", "door x y", "figure zoo hall",
    "figure a a", "digits", "digits 1", "begin hall", "scene a", "scene zzz", "text", "text ", "text  a b ", "worth num 1", "break",
    "glue", "if all 0", "only ann", "else", "done", "choice q", "choice open", "once q", "when all 0", "set coin num 1",
    "draw coin", "go ann hall", "put ann hall", "join ann bob", "leave ann", "to hall", "into hall hall", "back",
    "woven hall", "ending fine", "end", "Scene a", "scene",
)
OTHER_WORDS = (
    "", "a", "zzzzzzzz", "abcdefghi", "Hall", "0", "-0", "00", "01", "+1", "-", "-1", "7", "10", "-5", "1.0", "99", "100",
    "9" * 60, "9" * 61, "-" + "9" * 60, "-" + "9" * 61, "<", "=", ">", "<=", "num", "of", "seen", "plus", "minus", "is",
    "at", "with", "not", "all", "any", "text", "only", "else",
)


class Reading(unittest.TestCase):
    def reads(self, text, one):
        self.assertTrue(same(told(story_read, text=text), one), text)

    def refuses(self, text, line, word):
        self.assertEqual(refusal(story_read, NoText, "line", "word", text=text), (line, word), text)

    def test_stories_of_each_sort_of_line(self):
        self.reads(INN_TEXT, INN)
        self.reads(VOID_TEXT, VOID)
        self.reads(SMALL_TEXT, SMALL)

    def test_what_is_read_is_a_story(self):
        for text in (INN_TEXT, VOID_TEXT, SMALL_TEXT):
            self.assertIs(is_story(story_read(text)), True)

    def test_whole_or_not(self):
        self.reads("door p q\nfigure f off\ndigits\nbegin no\nscene a\nworth seen none\nchoice b\nwhen at x y\nto z\nwoven w",
                   story(scene("a", pieces=(("worth", ("seen", "none")),), woven=("w",),
                               choices=(choice("b", ("to", "z"), test=("at", "x", "y")),)),
                         begin="no", doors=(("p", "q"),), figures=(("f", "off"),)))

    def test_void_text(self):
        self.refuses("", 0, 0)
        self.refuses("\n", 0, 0)
        self.refuses(" ", 0, 0)

    def test_lines_that_lack(self):
        self.refuses("digits", 1, 0)
        self.refuses("number a 0 1 0", 1, 0)
        self.refuses("place a\nplace b", 2, 0)
        self.refuses(HEAD + "scene a\nif all 0", 4, 0)
        self.refuses(HEAD + "scene a\nif all 0\nelse", 5, 0)
        self.refuses(HEAD + "scene a\nonly ann\ntext a", 5, 0)
        self.refuses(CHOICE + "text a", 5, 0)
        self.refuses(CHOICE + "when all 0", 5, 0)
        self.refuses(CHOICE + "when all 0\nleave ann", 6, 0)

    def test_a_line_end_at_the_end(self):
        self.refuses(VOID_TEXT + "\n", 2, 0)
        self.refuses(INN_TEXT + "\n", len(LINES), 0)
        self.refuses(HEAD + "scene a\n\ntext x", 3, 0)

    def test_words_that_lack_and_are_too_many(self):
        for line, many in (
            ("number a 0 1 0", 5), ("place a", 2), ("door a b", 3), ("figure f a", 3),
        ):
            words = line.split(" ")
            for k in range(1, many):
                self.refuses(" ".join(words[:k]) + "\n" + VOID_TEXT, 0, k)
            self.refuses(line + " a\n" + VOID_TEXT, 0, many)
            self.refuses(line + " \n" + VOID_TEXT, 0, many)
        self.refuses("digits\nbegin", 1, 1)
        self.refuses("digits\nbegin a b", 1, 2)
        for line, many in (("scene", 1), ("scene b c", 2), ("ending", 1), ("ending x y", 2), ("woven", 1), ("break a", 1),
                           ("glue ", 1), ("place", 1), ("place a b", 2), ("worth", 1), ("worth num", 2), ("worth num 1 1", 3),
                           ("if", 1), ("if all", 2), ("if all 1", 3), ("if all 0 0", 3), ("only", 1), ("only a b", 2),
                           ("choice", 1), ("choice a b", 2), ("once", 1)):
            self.refuses(HEAD + "scene a\n" + line, 3, many)
        for line, many in (("to", 1), ("to a b", 2), ("into a", 2), ("into", 1), ("into a b c", 3), ("back a", 1),
                           ("set", 1), ("set a", 2), ("set a num", 3), ("set a num 1 1", 4), ("draw", 1), ("draw a b", 2),
                           ("go a", 2), ("go a b c", 3), ("put a", 2), ("put a b c", 3), ("join a", 2), ("join a b c", 3),
                           ("leave", 1), ("leave a b", 2)):
            self.refuses(WHEN + "all 0\n" + line, 5, many)
        self.refuses(HEAD + "scene a\nif all 0\nelse a", 4, 1)
        self.refuses(HEAD + "scene a\nonly b\ndone a", 4, 1)
        self.refuses(CHOICE + "when", 4, 1)

    def test_text_lines(self):
        def pieces(line):
            return story_read(HEAD + "scene a\n" + line)[5][0][1]
        self.refuses(HEAD + "scene a\ntext", 3, 1)
        self.assertEqual(pieces("text "), (("text", ""),))
        self.assertEqual(pieces("text  "), (("text", " "),))
        self.assertEqual(pieces("text   a  b "), (("text", "  a  b "),))
        self.assertEqual(pieces("text text"), (("text", "text"),))
        self.assertEqual(pieces("text " + "w " * 300), (("text", "w " * 300),))
        self.assertEqual(pieces("text done\ntext else"), (("text", "done"), ("text", "else")))
        self.refuses(HEAD + "text a", 2, 0)
        self.refuses(HEAD + "scene a\nending b\ntext a", 4, 0)
        self.refuses(HEAD + "scene a\ntexts a", 3, 0)
        self.refuses(HEAD + "scene a\n text a", 3, 0)

    def test_signs_that_no_text_has(self):
        for sign in ("%", "\t", "\r", "\u00e9"):
            self.refuses(HEAD + "scene a\ntext a" + sign, 3, 1)

    def test_else_done_only(self):
        base = HEAD + "scene a\n"
        for line in ("else", "done"):
            self.refuses(base + line, 3, 0)
            self.refuses(base + "only b\ndone\n" + line, 5, 0)
            self.refuses(base + "if all 0\nelse\ndone\n" + line, 6, 0)
            self.refuses(CHOICE + line, 4, 0)
        self.refuses(base + "if all 0\ndone", 4, 0)
        self.refuses(base + "if all 0\nelse\nelse", 5, 0)
        self.refuses(base + "only b\nelse", 4, 0)
        self.refuses(base + "if all 0\nonly b\nelse", 5, 0)
        self.refuses(base + "only b\nif all 0\ndone", 5, 0)
        self.refuses(CHOICE + "only b\ndone", 4, 0)
        self.refuses(CHOICE + "if all 0\nonly b", 5, 0)
        self.refuses(CHOICE + "if all 0\nelse\nonly b", 6, 0)
        self.refuses(CHOICE + "if all 0\nif all 0\nonly b", 6, 0)
        self.refuses(CHOICE + "if all 0\nwhen all 0", 5, 0)
        self.refuses(base + "if all 0\nchoice b", 4, 0)
        self.refuses(base + "only b\nscene c", 4, 0)
        self.refuses(base + "only b\nwoven c", 4, 0)
        self.refuses(base + "only b\nending c", 4, 0)

    def test_blocks_within_blocks(self):
        text = HEAD + "\n".join([
            "scene a", "if any 0", "if all 0", "text a", "else", "text b", "done", "text c", "else", "only ann", "if any 0",
            "else", "only bob", "done", "done", "text d", "done", "done", "text e",
        ])
        self.reads(text, story(scene("a", pieces=(
            ("if", ("any", ()), (("if", ("all", ()), (("text", "a"),), (("text", "b"),)), ("text", "c")),
             (("only", "ann", (("if", ("any", ()), (), (("only", "bob", ()),)), ("text", "d"))),)),
            ("text", "e"),
        ))))

    def test_numbers(self):
        for words, at in (
            ("a 0 1 0", None), ("a 0 0 0", None), ("a -2 -1 -1", None), ("a 5 4 5", 3), ("a 5 4", 3), ("a 0 1 2", 4),
            ("a 0 1 -1", 4), ("a 1 1 0", 4), ("a 00 1 0", 2), ("a 01 1 0", 2), ("a -0 1 0", 2), ("a 0 +1 0", 3),
            ("a 0 -0 0", 3), ("a 0 1 -0", 4), ("a - 1 0", 2), ("a 0 1 00", 4), ("a 0x 1 0", 2), ("a 1- 1 0", 2),
            ("a --1 1 0", 2), ("a  1 0", 2), ("A 0 1 0", 1), ("abcdefghi 0 1 0", 1), (" 0 1 0", 1), ("a 1 0 x y", 3),
            ("a x 0 9 9", 2), ("a " + "9" * 61 + " 0 0", 2), ("a 0 " + "9" * 61 + " 0", 3), ("a -" + "9" * 61 + " 0 0", 2),
            ("a 0 1_0 0", 3), ("a \u0661 1 0", 2), ("a 0 \u00b2 0", 3),
        ):
            if at is None:
                name, *row = words.split(" ")
                self.reads("number " + words + "\n" + VOID_TEXT, (((name, *map(int, row)),),) + VOID[1:])
            else:
                self.refuses("number " + words + "\n" + VOID_TEXT, 0, at)

    def test_long_numbers(self):
        text = "number a -{0} {0} {0}".format("9" * 60)
        self.reads(text + "\n" + VOID_TEXT, ((("a", -BIG, BIG, BIG),),) + VOID[1:])
        base = HEAD + "scene a\nworth num "
        self.reads(base + "9" * 60, story(scene("a", pieces=(("worth", ("num", BIG)),))))
        self.reads(base + "-" + "9" * 60, story(scene("a", pieces=(("worth", ("num", -BIG)),))))
        self.refuses(base + "1" + "0" * 60, 3, 2)
        self.refuses(base + "-1" + "0" * 60, 3, 2)
        self.refuses(base + "-0", 3, 2)
        self.refuses(base + "007", 3, 2)

    def test_rising_names(self):
        self.refuses("number b 0 1 0\nnumber a 0 1 0\n" + VOID_TEXT, 1, 1)
        self.refuses("number b 0 1 0\nnumber b 5 4 9\n" + VOID_TEXT, 1, 1)
        self.refuses("number b 0 1 0\nnumber", 1, 1)
        self.refuses("place b\nplace b\n" + VOID_TEXT, 1, 1)
        self.refuses("place b\nplace a x\n" + VOID_TEXT, 1, 1)
        self.refuses("place zzzzzzzz\nplace a\n" + VOID_TEXT, 1, 1)
        self.refuses("figure b x\nfigure b y\n" + VOID_TEXT, 1, 1)
        self.refuses("figure b x\nfigure a X\n" + VOID_TEXT, 1, 1)
        self.refuses("figure b x\nfigure c X\n" + VOID_TEXT, 1, 2)
        self.refuses(HEAD + "scene b\nscene b", 3, 1)
        self.refuses(HEAD + "scene b\ntext x\nending c\nscene a", 5, 1)
        self.reads("place a\nplace aa\nplace b\n" + VOID_TEXT, ((), ("a", "aa", "b")) + VOID[2:])
        self.reads("number b 0 0 0\nplace a\nfigure a a\n" + VOID_TEXT, ((("b", 0, 0, 0),), ("a",), (), (("a", "a"),)) + VOID[4:])

    def test_doors(self):
        for lines, line, word in (
            ("door a a", 0, 2), ("door b a", 0, 2), ("door b c\ndoor a z", 1, 1), ("door b c\ndoor b c", 1, 2),
            ("door b d\ndoor b c", 1, 2), ("door b d\ndoor c b", 1, 2), ("door b d\ndoor a", 1, 1), ("door b d\ndoor b", 1, 2),
            ("door b d\ndoor b c x", 1, 2), ("door b d\ndoor b e x", 1, 3), ("door b zzzzzzzz\ndoor b x", 1, 2),
            ("door A b", 0, 1), ("door a B", 0, 2), ("door zzzzzzzz z", 0, 2),
        ):
            self.refuses(lines + "\n" + VOID_TEXT, line, word)
        self.reads("door a b\ndoor a c\ndoor b c\ndoor c d\n" + VOID_TEXT,
                   ((), (), (("a", "b"), ("a", "c"), ("b", "c"), ("c", "d"))) + VOID[3:])

    def test_digits(self):
        self.reads("digits 0 9 0\nbegin hall", VOID[:4] + ((0, 9, 0),) + VOID[5:])
        for words, at in (("10", 1), ("1 22", 2), ("1 -1", 2), ("1 ", 2), ("", 1), ("a", 1), ("1 2 3 x 44", 4), ("\u0663", 1)):
            self.refuses("digits " + words + "\nbegin hall", 0, at)

    def test_choices(self):
        base = WHEN + "all 0\nback\n"
        self.refuses(base + "choice b", 6, 1)
        self.refuses(base + "once b c", 6, 1)
        self.refuses(base + "choice c\nwhen all 0\nback\nchoice b", 9, 1)
        self.refuses(base + "text x", 6, 0)
        self.refuses(base + "when all 0", 6, 0)
        self.refuses(base + "back", 6, 0)
        self.refuses(base + "leave a", 6, 0)
        self.refuses(CHOICE + "back", 4, 0)
        self.refuses(CHOICE + "leave a", 4, 0)
        self.refuses(CHOICE + "choice c", 4, 0)
        self.refuses(CHOICE + "woven c", 4, 0)
        self.refuses(WHEN + "all 0\nwhen all 0", 5, 0)
        self.refuses(WHEN + "all 0\ntext x", 5, 0)
        self.refuses(WHEN + "all 0\nscene c", 5, 0)
        self.assertIs(is_story(story_read(base + "scene c\nchoice b\nwhen all 0\nback")), True)

    def test_woven_and_endings(self):
        base = HEAD + "scene a\n"
        self.reads(base + "woven a c b", story(scene("a", woven=("a", "c", "b"))))
        self.reads(base + "woven a woven", story(scene("a", woven=("a", "woven"))))
        self.refuses(base + "woven a b a", 3, 3)
        self.refuses(base + "woven a a", 3, 2)
        self.refuses(base + "woven a a X", 3, 2)
        self.refuses(base + "woven a X a", 3, 2)
        self.refuses(base + "woven ", 3, 1)
        self.refuses(base + "woven a\nwoven b", 4, 0)
        self.refuses(base + "ending a\nwoven b", 4, 0)
        self.refuses(base + "ending a\nending b", 4, 0)
        self.refuses(base + "woven a\nchoice b", 4, 0)
        self.refuses(base + "ending a\nchoice b", 4, 0)
        self.refuses(base + "woven a\ntext b", 4, 0)
        self.reads(base + "woven a\nending b\nscene c\nending d",
                   story(scene("a", woven=("a",), ending="b"), scene("c", ending="d")))

    def test_sums_and_tests(self):
        for words, at in (
            ("is num 1 < num 2", None), ("is num 1 num 2", 4), ("is num 1 <= num 2", 4), ("is num 1 <", 5), ("is all 0", 2),
            ("is plus num 1 num 2 = of a", None), ("is plus num 1 = of a", 5), ("is num x < num 2", 3), ("is of 1 < num 2", 3),
            ("at ann", 3), ("at ann yard x", 4), ("at Ann yard", 2), ("with ann", 3), ("not", 2), ("not not any 0", None),
            ("not num 1", 2), ("all 2 any 0", 5), ("all 2 any 0 any 0", None), ("all 1 any 0 any 0", 5), ("all 00", 2),
            ("all 01 any 0", 2), ("all -1", 2), ("all -0", 2), ("all 100", 2), ("all 99", 3), ("all x", 2), ("all", 2),
            ("any 1 all 1 not at a b", None), ("any 1 all 1 not at a", 8), ("is seen a > seen b", None), ("num 1", 1),
            ("all  0", 2), ("all 0 ", 3), ("of a", 1), ("is of plus = of num", None), ("at at at", None),
            ("all 12" + " any 0" * 12, None), ("all 12" + " any 0" * 11, 25), ("all 12" + " any 0" * 13, 27),
        ):
            if at is None:
                text = WHEN + words + "\nback"
                self.assertEqual(story_text(story_read(text)), text)
            else:
                self.refuses(WHEN + words + "\nback", 4, at)

    def test_order_of_sorts_ahead_of_scenes(self):
        sorts = ("number a 0 1 0", "place a", "door a b", "figure a a")
        for k, later in enumerate(sorts):
            for earlier in sorts[:k]:
                self.refuses(later + "\n" + earlier + "\n" + VOID_TEXT, 1, 0)
            self.refuses("digits\n" + later, 1, 0)
            self.refuses(HEAD + later, 2, 0)
        self.refuses("begin a", 0, 0)
        self.refuses("digits\ndigits", 1, 0)
        self.refuses("digits\nscene a", 1, 0)
        self.refuses(HEAD + "begin a", 2, 0)
        self.refuses(HEAD + "choice a", 2, 0)
        self.refuses("scene a", 0, 0)

    def test_the_first_line_goes_ahead(self):
        self.refuses("number b 0 1 0\nnumber a 0 1 0\nplace X\nfoo", 1, 1)
        self.refuses("digits 1 x\nbegin", 0, 2)


class Bent(unittest.TestCase):
    """Texts with lines and words bent, one after the other, against the other reader."""

    def check(self, text):
        mine, other = found(story_read, text), slowreading.read_story(text)
        self.assertTrue(same(mine, other), (text, mine, other))
        if mine[0] == "read":
            self.assertEqual(story_text(mine[1]), text)
            self.assertIs(is_story(mine[1]), True)

    def test_beginnings(self):
        for k in range(len(INN_TEXT) + 1):
            self.check(INN_TEXT[:k])

    def test_lines_out_twice_exchanged(self):
        for k in range(len(LINES)):
            self.check("\n".join(LINES[:k] + LINES[k + 1:]))
            self.check("\n".join(LINES[:k] + LINES[k:k + 1] + LINES[k:]))
            for j in range(k):
                self.check("\n".join(LINES[:j] + [LINES[k]] + LINES[j + 1:k] + [LINES[j]] + LINES[k + 1:]))

    def test_other_lines_put_in(self):
        for k in range(len(LINES) + 1):
            for line in OTHER_LINES:
                self.check("\n".join(LINES[:k] + [line] + LINES[k:]))
                self.check("\n".join(LINES[:k] + [line] + LINES[k + 1:]))

    def test_words_out_twice_exchanged_other(self):
        for k, line in enumerate(LINES):
            words = line.split(" ")
            rows = []
            for j in range(len(words) + 1):
                rows.append(words[:j] + words[j + 1:])
                rows.append(words[:j] + words[j:j + 1] + words[j:])
                rows.append(words[:j] + words[j + 1:j + 2] + words[j:j + 1] + words[j + 2:])
                rows.extend(words[:j] + [word] + words[j:] for word in OTHER_WORDS)
                rows.extend(words[:j] + [word] + words[j + 1:] for word in OTHER_WORDS)
                rows.append(words[:j])
            for row in rows:
                self.check("\n".join(LINES[:k] + [" ".join(row)] + LINES[k + 1:]))


class BackAndForth(unittest.TestCase):
    def test_what_is_written_is_read_as_the_same(self):
        for one in (INN, VOID, SMALL):
            self.assertTrue(same(story_read(story_text(one)), one))

    def test_what_is_read_is_written_as_the_same_text(self):
        for text in (INN_TEXT, VOID_TEXT, SMALL_TEXT):
            self.assertEqual(story_text(story_read(text)), text)

    def test_deep_and_long_ones(self):
        for many in (30, 180):
            text = HEAD + "scene a\n" + "if not any 0\n" * many + "else\ndone\n" * many + "text end"
            one = told(story_read, text=text)
            self.assertEqual(story_text(one), text)
            self.assertIs(is_story(one), True)
            text = WHEN + "not " * many + "all 0\nback"
            self.assertEqual(story_text(told(story_read, text=text)), text)
            text = HEAD + "scene a\nworth " + "plus num 1 " * 60 + "num 2"
            self.assertEqual(story_text(told(story_read, text=text)), text)
            self.refuses(HEAD + "scene a\nif " + "not " * many, 3, many + 1)
            self.refuses(HEAD + "scene a" + "\nif any 0" * 400, 403, 0)

    def refuses(self, text, line, word):
        self.assertEqual(refusal(story_read, NoText, "line", "word", text=text), (line, word))


if __name__ == "__main__":
    unittest.main()

"""LOGS read from texts."""

import unittest

from forktales.errors import NoText
from forktales.houselogs import is_log
from forktales.savedreadings import read_saved
from forktales.savedtexts import saved_text
from tests import slowreading
from tests.helpers import found, refusal, same, told
from tests.samples import BIG, INN, INN_TEXT, LOG, LOG_TEXT, SMALL, SMALL_TEXT, VOID, VOID_TEXT

HOUSE = "house any - 2\n" + VOID_TEXT
SHORT_LOG = tuple(row for row in LOG if row[1] is not INN)
SHORT_LINES = saved_text(SHORT_LOG).split("\n")

OTHER_LINES = (
    "", " ", "come ann", "come", "go a b", "go ann", "pick a b c", "pick a b", "vote a b c", "vote a b c d", "back 1", "back",
    "back -0", "edit 1 - -", "edit 2 - -", "edit 3 a>b -", "edit", "house any - 2", "house", "digits", "begin a", "scene zz", "text x",
)
OTHER_WORDS = (
    "", "-", "a", "zz", "abcdefghi", "Ann", "ann,bob", "bob,ann", "ann,ann", "ann,", ",ann", "-,ann", "ann,Bob", "any", "votes", "turns", "turn",
    "0", "1", "2", "3", "4", "02", "-0", "-1", "+2", "99", "9" * 60, "9" * 61, "-" + "9" * 60, "-" + "9" * 61, "1.0",
    "a>b", "a>b,b>a", "b>a,a>b", "a>b,a>c", "a>b,c>b", "a>b,", "a>", ">b", "a>b>c", "a>B", "a", "a.b>c.d", "a.b>c.d,c.d>a.b",
    "c.d>a.b,a.b>c.d", "a.b>c.d,a.b>c.e", "a.b>c.d,a.c>c.d", "a.b", "a.b>", "a.b>c", "a>c.d", "a.b>c.d.e", "a.b.c>d.e", "a.b>c.D", "a.b>c.d,",
    "house", "come", "edit",
)


class Reading(unittest.TestCase):
    def reads(self, text, log):
        self.assertTrue(same(told(read_saved, text=text), log), text)

    def refuses(self, text, line, word):
        self.assertEqual(refusal(read_saved, NoText, "line", "word", text=text), (line, word), text)

    def test_logs_of_each_sort_of_row(self):
        self.reads(LOG_TEXT, LOG)
        self.reads(HOUSE, (("house", VOID, (), "any"),))
        self.reads("house votes ann 3\n" + SMALL_TEXT, (("house", SMALL, ("ann",), "votes"),))
        self.assertIs(is_log(read_saved(LOG_TEXT)), True)

    def test_void_text(self):
        self.refuses("", 0, 0)
        self.refuses("\n", 0, 0)
        self.refuses(" ", 0, 0)
        self.refuses("come ann", 0, 0)

    def test_the_line_of_the_house(self):
        for line, word in (
            ("House any - 2", 0), ("home any - 2", 0), (" house any - 2", 0), ("house", 1), ("house Any - 2", 1), ("house  - 2", 1),
            ("house turn - 2", 1), ("house any", 2), ("house any  2", 2), ("house any Ann 2", 2), ("house any bob,ann 2", 2),
            ("house any ann,ann 2", 2), ("house any ann, 2", 2), ("house any ,ann 2", 2), ("house any -,ann 2", 2), ("house any 1 2", 2),
            ("house any ann;bob 2", 2), ("house any -", 3), ("house any - ", 3), ("house any - 0", 3), ("house any - -2", 3),
            ("house any - 02", 3), ("house any - +2", 3), ("house any - x", 3), ("house any - -", 3), ("house any - 2 ", 4),
            ("house any - 2 x", 4), ("house any - " + "9" * 61, 3), ("house any - 1" + "0" * 60, 3), ("house no x y z", 1),
            ("house any - x y", 3),
        ):
            self.refuses(line + "\n" + VOID_TEXT, 0, word)

    def test_too_few_lines(self):
        for many in (3, 10, BIG):
            self.refuses(f"house any - {many}\n{VOID_TEXT}", 3, 0)
        self.refuses("house any - 1", 1, 0)
        self.refuses("house any - 2\nnothing", 2, 0)
        self.refuses(f"house any - 4\nnothing\n{VOID_TEXT}", 4, 0)
        self.refuses(HOUSE + "\nedit 1 - -", 4, 0)
        self.refuses(HOUSE + f"\nedit 3 - -\n{VOID_TEXT}", 6, 0)
        self.refuses(HOUSE + f"\ncome a\nedit {BIG} - -\n{VOID_TEXT}", 7, 0)
        self.refuses(HOUSE + "\nedit 9 - x\ndigits", 3, 3)
        self.refuses(HOUSE + "\nedit 9 - - x\ndigits", 3, 4)

    def test_a_text_in_it_that_is_no_story(self):
        self.refuses("house any - 2\ndigits x\nbegin a", 1, 1)
        self.refuses("house any - 2\ndigits\nbegin", 2, 1)
        self.refuses("house any - 1\ndigits\nbegin a", 2, 0)
        self.refuses("house any - 1\ndigits", 2, 0)
        self.refuses("house any - 3\n" + VOID_TEXT + "\ncome ann", 3, 0)
        self.refuses("house any - 3\n" + VOID_TEXT + "\n", 3, 0)
        self.refuses("house any - 4\n" + VOID_TEXT + "\nscene a\ntext", 4, 1)
        self.refuses(HOUSE + "\ncome a\nedit 2 - -\ndigits 10\nbegin a", 5, 1)
        self.refuses(HOUSE + "\ncome a\nedit 1 - -\ndigits\nbegin a", 6, 0)
        self.refuses(HOUSE + "\nedit 4 - -\n" + VOID_TEXT + "\nscene b\nscene b", 7, 1)
        self.refuses(HOUSE + "\nedit 2 - -\nbegin a\ndigits", 4, 0)
        self.refuses("house any - 2\ndigits x\nbegin a\nrubbish", 1, 1)

    def test_rows(self):
        for line, word in (
            ("", 0), (" ", 0), ("comes ann", 0), ("Come ann", 0), (" come ann", 0), ("house any - 2", 0), ("undo", 0),
            ("come", 1), ("come ", 1), ("come Ann", 1), ("come -", 1), ("come ann,bob", 1), ("come ann bob", 2), ("come ann ", 2),
            ("go", 1), ("go abcdefghi", 1), ("go ann bob", 2), ("pick", 1), ("pick ann", 2), ("pick ann hall", 3),
            ("pick ann hall open x", 4), ("pick Ann hall open", 1), ("pick ann Hall open", 2), ("pick ann hall Open", 3),
            ("pick ann hall.open", 2), ("pick ann  open", 2), ("vote", 1), ("vote ann", 2), ("vote ann hall", 3), ("vote ann hall open ", 4),
            ("vote ann hall 1", 3), ("back", 1), ("back x", 1), ("back 02", 1), ("back -0", 1), ("back +1", 1), ("back 1 1", 2),
            ("back -", 1), ("back " + "9" * 61, 1), ("back -1" + "0" * 60, 1), ("back 1,2", 1), ("edit", 1), ("edit 2", 2), ("edit 2 -", 3),
            ("edit 0 - -", 1), ("edit -1 - -", 1), ("edit x - -", 1), ("edit 2  -", 2), ("edit 2 - ", 3), ("edit 2 - - -", 4),
        ):
            self.refuses(HOUSE + "\n" + line, 3, word)
            self.refuses(HOUSE + "\ncome zoe\n" + line + "\ncome zoe", 4, word)

    def test_numbers_of_back(self):
        for times in (0, 1, -1, 12, BIG, -BIG):
            self.reads(f"{HOUSE}\nback {times}", (("house", VOID, (), "any"), ("back", times)))

    def test_tables(self):
        for words, at in (
            ("a>b -", None), ("a>b,b>a a.b>c.d", None), ("a>a a.a>a.a", None), ("- a.b>b.b,b.b>a.b", None), ("b>a,a>b -", 2),
            ("a>b,a>c -", 2), ("a>b,c>b -", 2), ("a>b,a>b -", 2), ("a -", 2), ("a> -", 2), (">b -", 2), ("a>b>c -", 2), ("a>B -", 2),
            ("a>b, -", 2), ("-,a>b -", 2), ("a.b>c.d -", 2), ("- a>b", 3), ("- a.b", 3), ("- a.b>c", 3), ("- a.b>c.d.e", 3),
            ("- a.b>c.D", 3), ("- a.c>a.a,a.b>a.d", 3), ("- a.b>c.d,a.b>c.e", 3), ("- a.b>c.d,a.c>c.d", 3), ("- a.b>c.d,", 3),
            ("- .b>c.d", 3), ("a>b c", 3), ("a>b,c>d b.a>a.b,a.b>b.a", 3), ("x y", 2), ("- a.b>c.d>e.f", 3), ("a:b -", 2),
        ):
            text = f"{HOUSE}\nedit 2 {words}\n{VOID_TEXT}"
            if at is None:
                self.assertEqual(saved_text(told(read_saved, text=text)), text)
            else:
                self.refuses(text, 3, at)
        self.reads(f"{HOUSE}\nedit 2 a>b,c>a a.x>b.y,c.x>b.x\n{VOID_TEXT}", (
            ("house", VOID, (), "any"),
            ("edit", VOID, ((("a", "b"), ("c", "a")), ((("a", "x"), ("b", "y")), (("c", "x"), ("b", "x"))))),
        ))

    def test_a_line_end_at_the_end(self):
        self.refuses(HOUSE + "\n", 3, 0)
        self.refuses(LOG_TEXT + "\n", len(LOG_TEXT.split("\n")), 0)

    def test_texts_of_stories_that_look_like_rows(self):
        text = "digits\nbegin a\nscene a\ntext come ann\ntext back 2"
        log = read_saved("house any - 5\n" + text + "\nback 2")
        self.assertEqual(log[0][1][5][0][1], (("text", "come ann"), ("text", "back 2")))
        self.assertEqual(log[1], ("back", 2))

    def test_long_lists_of_readers(self):
        names = sorted(one + other for one in "abcdefgh" for other in "abcdefgh")
        self.assertEqual(read_saved("house turns " + ",".join(names) + " 2\n" + VOID_TEXT)[0][2], tuple(names))


class BackAndForth(unittest.TestCase):
    def test_what_is_saved_is_read_as_the_same(self):
        logs = [LOG, SHORT_LOG, (("house", INN, (), "votes"),), LOG[:1] + (LOG[7],) * 3]
        logs.extend(LOG[:k] for k in range(1, len(LOG)))
        for log in logs:
            self.assertTrue(same(read_saved(saved_text(log)), log))

    def test_of_what_is_read_the_same_text_is_saved(self):
        for text in (LOG_TEXT, HOUSE, "house turns a 3\n" + SMALL_TEXT, "house turns - 77\n" + INN_TEXT):
            lines = len(text.split("\n")) - 1
            text = text.replace(" 77\n", f" {lines}\n")
            self.assertEqual(saved_text(told(read_saved, text=text)), text)


class Bent(unittest.TestCase):
    """Texts with lines and words bent, one after the other, against the other reader."""

    def check(self, text):
        mine, other = found(read_saved, text), slowreading.read_log(text)
        self.assertTrue(same(mine, other), (text, mine, other))
        if mine[0] == "read":
            self.assertEqual(saved_text(mine[1]), text)
            self.assertIs(is_log(mine[1]), True)

    def test_beginnings(self):
        text = "\n".join(SHORT_LINES)
        for k in range(len(text) + 1):
            self.check(text[:k])

    def test_lines(self):
        lines = SHORT_LINES
        for k in range(len(lines) + 1):
            self.check("\n".join(lines[:k] + lines[k + 1:]))
            self.check("\n".join(lines[:k] + lines[k:k + 1] + lines[k:]))
            self.check("\n".join(lines[:k] + lines[k + 1:k + 2] + lines[k:k + 1] + lines[k + 2:]))
            for line in OTHER_LINES:
                self.check("\n".join(lines[:k] + [line] + lines[k:]))
                self.check("\n".join(lines[:k] + [line] + lines[k + 1:]))

    def test_words(self):
        for k, line in enumerate(SHORT_LINES):
            words = line.split(" ")
            rows = []
            for j in range(len(words) + 1):
                rows.append(words[:j] + words[j + 1:])
                rows.append(words[:j] + words[j:j + 1] + words[j:])
                rows.append(words[:j] + words[j + 1:j + 2] + words[j:j + 1] + words[j + 2:])
                rows.extend(words[:j] + [word] + words[j:] for word in OTHER_WORDS)
                rows.extend(words[:j] + [word] + words[j + 1:] for word in OTHER_WORDS)
            for row in rows:
                self.check("\n".join(SHORT_LINES[:k] + [" ".join(row)] + SHORT_LINES[k + 1:]))


if __name__ == "__main__":
    unittest.main()

"""STANDS as texts of seven words."""

import re
import unittest

from forktales.errors import NoText
from forktales.standtexts import stand_read, stand_text
from tests.helpers import refusal, same, told
from tests.samples import BIG

FULL = ("hall", ("yard", "loft"), (3, 0), (("at", "yard"), ("with", "ann")), (("hall", 1),), (("hall", "open"),), 2)
FULL_TEXT = "hall yard,loft 3,0 at:yard,with:ann hall:1 hall.open 2"
BARE = ("a", (), (), (), (), (), 0)

STANDS = (
    (("hall", (), (3, 0), (("at", "yard"), ("with", "ann")), (("hall", 1),), (("hall", "open"),), 2),
     "hall - 3,0 at:yard,with:ann hall:1 hall.open 2"),
    (FULL, FULL_TEXT),
    (BARE, "a - - - - - 0"),
    (("zzzzzzzz", ("a", "a", "a"), (-3, 10, -BIG, BIG), (("with", "with"), ("at", "at"), ("at", "at")),
      (("b", 9), ("a", -1), ("a", 0)), (("b", "a"), ("a", "b"), ("a", "b")), -12),
     "zzzzzzzz a,a,a -3,10,-" + "9" * 60 + "," + "9" * 60 + " with:with,at:at,at:at b:9,a:-1,a:0 b.a,a.b,a.b -12"),
    (("a", (), (0,), (), (("a", BIG),), (), BIG), "a - 0 - a:" + "9" * 60 + " - " + "9" * 60),
)

NAME = "[a-z]{1,8}"
NUMBER = "(?:0|-?[1-9][0-9]{0,59})"


def row_of(pattern, most=""):
    """A pattern of - or of so many such with commas between."""
    return f"-|{pattern}(?:,{pattern}){most or '*'}"


PATTERNS = (
    NAME, row_of(NAME, "{0,2}"), row_of(NUMBER), row_of("(?:at|with):" + NAME), row_of(f"{NAME}:{NUMBER}"),
    row_of(rf"{NAME}\.{NAME}"), NUMBER,
)

OTHER_WORDS = (
    "", "-", "--", "a", "A", "abcdefghi", "a,b", "a,b,c", "a,b,c,d", "a,", ",a", "a,,b", ",", "-,a", "a,-", "0", "-0", "00", "01",
    "1", "-1", "+1", "1,2", "1,", "1,-0", "1,-2", "-1,-2", "9" * 60, "9" * 61, "-" + "9" * 60, "-" + "9" * 61, "at:a", "with:a",
    "at:A", "on:a", "at:", ":a", "at", "at:a:b", "at.a", "at:a,with:b", "at:a,b", "At:a", "a:1", "a:01", "a:-0", "a:-2", "a:", "a:b",
    "A:1", "a:1:2", "a:1,b:2", "a:1,", "a.1", "a.b", "a.b.c", "a.", ".b", "a.B", "a.b,c.d", "a.b,", "a:b,c.d", "a\n", "\n", "1\n",
    "a;b", "\u0661", "a:\u0661", "1 ", " a",
)


def first_wrong(text):
    """The place of the first word that cannot stand, None where all can."""
    words = text.split(" ")
    for k, word in enumerate(words):
        if k == 7 or not re.fullmatch(PATTERNS[k], word):
            return k
    return None if len(words) == 7 else len(words)


class Writing(unittest.TestCase):
    def test_each(self):
        for stand, text in STANDS:
            self.assertEqual(told(stand_text, stand=stand), text)

    def test_things_in_the_order_in_which_they_stand(self):
        stand = ("a", ("z", "b"), (2, 1), (("with", "z"), ("at", "b")), (("z", 2), ("b", 1)), (("z", "a"), ("b", "a")), 0)
        self.assertEqual(stand_text(stand), "a z,b 2,1 with:z,at:b z:2,b:1 z.a,b.a 0")


class Reading(unittest.TestCase):
    def refuses(self, text, word):
        self.assertEqual(refusal(stand_read, NoText, "line", "word", text=text), (0, word), text)

    def test_each(self):
        for stand, text in STANDS:
            self.assertTrue(same(told(stand_read, text=text), stand), text)

    def test_there_and_back(self):
        for stand, text in STANDS:
            self.assertTrue(same(stand_read(stand_text(stand)), stand))
            self.assertEqual(stand_text(stand_read(text)), text)

    def test_one_fewer_and_one_more(self):
        words = FULL_TEXT.split(" ")
        for many in range(1, 7):
            self.refuses(" ".join(words[:many]), many)
            self.refuses(" ".join(words[:many]) + " ", many)
        self.refuses(FULL_TEXT + " 2", 7)
        self.refuses(FULL_TEXT + " ", 7)
        self.refuses(FULL_TEXT + " x y", 7)

    def test_void_words_and_the_void_text(self):
        self.refuses("", 0)
        self.refuses(" ", 0)
        self.refuses(" " + FULL_TEXT, 0)
        words = FULL_TEXT.split(" ")
        for k in range(7):
            self.refuses(" ".join(words[:k] + [""] + words[k + 1:]), k)
            self.refuses(" ".join(words[:k] + [""] + words[k:]), k)

    def test_a_wrong_word_goes_ahead_of_too_few_and_too_many(self):
        self.refuses("hall yard x", 2)
        self.refuses("hall - - - - - x y z", 6)
        self.refuses("Hall", 0)

    def test_words_that_cannot_stand(self):
        wrong = {
            0: ("-", "a,b", "Hall", "abcdefghi", "1"),
            1: ("a,b,c,d", "a,", ",a", "a,B", "-,a", "1", "--"),
            2: ("01", "-0", "00", "1,", "a", "+1", "1,,2", "9" * 61, "1,-"),
            3: ("yard", "at:", "at:Yard", "in:yard", "at:a:b", "at.a", "at:a,", "with:a,b", ":a"),
            4: ("hall", "hall:", "hall:x", "hall:01", "hall:-0", "hall:1:1", ":1", "hall.1", "hall:1,", "hall:" + "9" * 61),
            5: ("hall", "hall.", ".open", "hall.open.a", "hall:open", "hall.Open", "hall.open,", "hall.1"),
            6: ("-", "02", "-0", "a", "2,3", "9" * 61, "2.0"),
        }
        words = FULL_TEXT.split(" ")
        for k, others in wrong.items():
            for other in others:
                self.refuses(" ".join(words[:k] + [other] + words[k + 1:]), k)

    def test_bent_words(self):
        for _, text in STANDS[:3]:
            words = text.split(" ")
            for k in range(7):
                for other in OTHER_WORDS:
                    bent = " ".join(words[:k] + [other] + words[k + 1:])
                    at = first_wrong(bent)
                    if at is None:
                        self.assertEqual(stand_text(stand_read(bent)), bent)
                    else:
                        self.refuses(bent, at)

    def test_beginnings(self):
        for _, text in STANDS:
            for k in range(len(text)):
                at = first_wrong(text[:k])
                if at is None:
                    self.assertEqual(stand_text(stand_read(text[:k])), text[:k])
                else:
                    self.refuses(text[:k], at)


if __name__ == "__main__":
    unittest.main()

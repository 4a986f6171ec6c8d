"""LOGS saved as texts."""

import unittest

from forktales.savedtexts import saved_text
from tests.helpers import told
from tests.samples import BIG, INN, INN_TEXT, LOG, LOG_TEXT, SMALL, SMALL_TEXT, VOID, VOID_TEXT, scene, story


class SavedTexts(unittest.TestCase):
    def row(self, *row):
        """The line of a row behind the line of a house."""
        lines = told(saved_text, log=(("house", VOID, (), "any"), row)).split("\n")
        self.assertEqual(lines[:3], ["house any - 2"] + VOID_TEXT.split("\n"))
        return "\n".join(lines[3:])

    def test_each_row(self):
        self.assertEqual(told(saved_text, log=LOG), LOG_TEXT)

    def test_houses(self):
        for way in ("turns", "votes", "any"):
            for readers, word in (((), "-"), (("ann",), "ann"), (("ann", "bob", "cat"), "ann,bob,cat")):
                text = told(saved_text, log=(("house", SMALL, readers, way),))
                self.assertEqual(text, f"house {way} {word} 3\n{SMALL_TEXT}")

    def test_lines_are_counted(self):
        for one, text in ((VOID, VOID_TEXT), (SMALL, SMALL_TEXT), (INN, INN_TEXT)):
            many = len(text.split("\n"))
            saved = told(saved_text, log=(("house", one, (), "any"),))
            self.assertEqual(saved, f"house any - {many}\n{text}")
            self.assertEqual(self.row("edit", one, ((), ())), f"edit {many} - -\n{text}")

    def test_lines_of_texts_with_blanks_are_counted(self):
        one = story(scene("a", pieces=(("text", ""), ("text", " "), ("text", "house any - 2"))))
        text = "digits\nbegin a\nscene a\ntext \ntext  \ntext house any - 2"
        self.assertEqual(saved_text((("house", one, (), "any"),)), "house any - 6\n" + text)

    def test_deeds(self):
        self.assertEqual(self.row("come", "ann"), "come ann")
        self.assertEqual(self.row("go", "ann"), "go ann")
        self.assertEqual(self.row("pick", "ann", ("hall", "open")), "pick ann hall open")
        self.assertEqual(self.row("vote", "ann", ("hall", "open")), "vote ann hall open")

    def test_back(self):
        for times in (2, 0, -1, 10, BIG, -BIG):
            self.assertEqual(self.row("back", times), "back " + str(times))

    def test_tables(self):
        for scenes, word in (((), "-"), ((("a", "b"),), "a>b"), ((("a", "b"), ("c", "a")), "a>b,c>a")):
            self.assertEqual(self.row("edit", VOID, (scenes, ())), f"edit 2 {word} -\n{VOID_TEXT}")
        one = (("a", "b"), ("c", "d"))
        other = (("b", "a"), ("a", "b"))
        for choices, word in (((), "-"), ((one,), "a.b>c.d"), ((one, other), "a.b>c.d,b.a>a.b")):
            self.assertEqual(self.row("edit", VOID, ((), choices)), f"edit 2 - {word}\n{VOID_TEXT}")

    def test_rows_stand_in_their_order(self):
        log = (("house", VOID, (), "any"), ("back", 2), ("come", "b"), ("edit", SMALL, ((), ())), ("come", "a"), ("back", 2))
        self.assertEqual(told(saved_text, log=log), "\n".join([
            "house any - 2", VOID_TEXT, "back 2", "come b", "edit 3 - -", SMALL_TEXT, "come a", "back 2",
        ]))


if __name__ == "__main__":
    unittest.main()

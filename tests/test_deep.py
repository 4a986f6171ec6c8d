"""Stories that texts of at most four thousand signs write, with parts as deep in one another as these let them be."""

import unittest

from forktales.alikeness import lean_stand
from forktales.allstands import all_stands
from forktales.callings import story_called
from forktales.heightchecker import lets_height
from forktales.heights import endings_of, height_paper
from forktales.houses import House
from forktales.keptruns import firm_stands, kept_stands
from forktales.linesshown import lines_shown
from forktales.lockchecker import lets_lock
from forktales.locks import lock_paper
from forktales.looking import looks_kept, looks_of
from forktales.memory import first_stand
from forktales.offering import offers
from forktales.pairing import alike_or_parted
from forktales.replaying import replayed
from forktales.rowmaking import story_rows
from forktales.rowruns import rows_offers, rows_run, rows_shown
from forktales.savedreadings import read_saved
from forktales.savedtexts import saved_text
from forktales.shownlines import shown
from forktales.skeletons import skeleton_of
from forktales.storyreadings import story_read
from forktales.storytexts import story_text
from forktales.traps import trap_paper, trap_stands
from forktales.treeruns import run
from forktales.wholeness import is_whole

HEAD = "number n 0 9 0\ndigits\nbegin a\nscene a\n"
CHOICE = "choice x\nwhen all 0\nto a\n"
END = "choice z\nwhen all 0\nto b\nscene b\nending end"

TEXTS = {
    "only": HEAD + "only a\n" * 315 + "text x\n" + "done\n" * 315 + CHOICE + END,
    "if": HEAD + "if any 0\n" * 190 + "else\ndone\n" * 190 + "text x\n" + CHOICE + END,
    "not": HEAD + "text x\nchoice x\nwhen " + "not " * 196 + "all 0\nto a\n" + END,
    "all": HEAD + "text x\nchoice x\nwhen " + "all 1 any 1 " * 48 + "all 0\nto a\n" + END,
    "plus": HEAD + "text x\nworth " + "plus " * 65 + "num 0" + " seen a" * 65 + "\nchoice x\nwhen all 0\nset n " + "minus num 0 " * 60 + "of n\nto a\n" + END,
}


def both():
    """Each story twice, the second one made anew."""
    return [(story_read(text), story_read(text)) for text in TEXTS.values()]


class Deep(unittest.TestCase):
    def test_texts(self):
        for one, other in both():
            self.assertIn(story_text(one), TEXTS.values())
            self.assertLessEqual(len(story_text(one)), 4000)
            self.assertTrue(is_whole(one))
            self.assertEqual(looks_kept(one, other, looks=looks_of(one)), (looks_of(one), ()))
            self.assertEqual(skeleton_of(one), skeleton_of(other))
            self.assertNotEqual(story_called(one, ((("a", "c"),), ())), one)

    def test_runs(self):
        for one, other in both():
            first, row = first_stand(one), (("a", "x"), ("a", "z"))
            rows = story_rows(one)
            self.assertEqual(offers(one, first), (("a", "x", ()), ("a", "z", ())))
            self.assertEqual(rows_offers(rows, first), offers(one, first))
            self.assertIn("x", shown(one, first, reader="a")[0])
            self.assertEqual(rows_shown(rows, first, reader="a"), shown(one, first, reader="a"))
            self.assertEqual(rows_run(rows, row), run(one, row))
            self.assertEqual((kept_stands(one, other, row), firm_stands(one, other, row)), (3, 3))

    def test_ways(self):
        for one, other in both():
            self.assertEqual(lean_stand(one, first_stand(one)), first_stand(one))
            self.assertGreater(len(all_stands(one)), 1)
            self.assertEqual(trap_stands(one), ())
            self.assertEqual(trap_paper(one, first_stand(one)), ("way", (("a", "z"),)))
            self.assertEqual(endings_of(one), ("end",))
            self.assertEqual(lets_height(one, "end", height_paper(one, "end")), 1)
            self.assertEqual(lets_lock(one, "end", lock_paper(one, "end")), 0)
            self.assertTrue(any("x" in line for line, _ in lines_shown(one)))
            self.assertEqual(alike_or_parted(one, other)[0], "alike")

    def test_houses(self):
        for one, other in both():
            house = House(one, readers=("a",))
            house.pick("a", ("a", "x"))
            house.edit(other)
            self.assertTrue(house == replayed(read_saved(saved_text(house.log()))))
            self.assertFalse(house != replayed(house.log()))


if __name__ == "__main__":
    unittest.main()

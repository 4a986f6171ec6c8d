"""ROWS MADE ONCE: what stands in them."""

import unittest

from forktales.rowmaking import story_rows
from tests.helpers import same, told
from tests.samples import INN, TOUR, largest, scene, story
from tests.storymaker import Maker


class Rows(unittest.TestCase):
    def plain(self, one):
        rows = told(story_rows, story=one)
        self.assertIs(type(rows), tuple)
        for row in rows:
            self.assertIs(type(row), tuple)
            for thing in row:
                self.assertIn(type(thing), (int, bool, str, type(None)))
        self.assertTrue(same(rows, story_rows(one)))
        return rows

    def test_plain_things_alone(self):
        for one in (INN, TOUR, largest(), story(scene("a"))):
            self.plain(one)
        for seed in range(30):
            self.plain(Maker(seed).story())

    def test_stories_that_part_have_unlike_rows(self):
        numbers, places, doors, figures, digits, scenes, begin = TOUR
        cases = [
            (numbers[:1] + (("luck", -9, 9, -2),), places, doors, figures, digits, scenes, begin),
            (numbers[:1] + (("luck", -9, 8, -1),), places, doors, figures, digits, scenes, begin),
            (numbers, places, doors[:1], figures, digits, scenes, begin),
            (numbers, places, doors, figures, digits[::-1], scenes, begin),
            (numbers, places, doors, figures, digits, scenes, "yard"),
        ]
        for name, pieces, choices, woven, ending in scenes:
            others = [other for other in scenes if other[0] != name]
            for bent in ((name, pieces + (("end",),), choices, woven, ending), (name, pieces, choices[:-1], woven, ending),
                         (name, pieces, choices, woven, "other"), (name, pieces, choices, woven + ("yard",), ending)):
                if bent[3] == woven or name != "yard":
                    cases.append((numbers, places, doors, figures, digits, tuple(sorted([*others, bent])), begin))
        for case in cases:
            self.assertNotEqual(self.plain(case), self.plain(TOUR))


if __name__ == "__main__":
    unittest.main()

"""Endings, least rows, height papers."""

import unittest

from forktales.errors import LackError, NoEnding, NoMore
from forktales.heightchecker import lets_height
from forktales.heights import endings_of, height_paper, least_row
from forktales.treeruns import run
from tests import slowways
from tests.helpers import refusal, same, told
from tests.pairsamples import NEVER, walk
from tests.samples import INN, TOUR, choice, scene, story
from tests.storymaker import Maker
from tests.waysamples import ENDED, GROWS, ROUND, ROUND_STANDS, TWO_ENDS, pairs_of

BOTH = (least_row, height_paper)


class Endings(unittest.TestCase):
    def test_told(self):
        for one, names in ((ROUND, ("end",)), (TWO_ENDS, ("bad", "good")), (ENDED, ("end", "other")), (TOUR, ("free",)), (INN, ("bad", "good")),
                           (story(scene("a")), ()), (story(scene("a", ending="x"), scene("b", ending="x"), scene("c", ending="a")), ("a", "x"))):
            self.assertTrue(same(told(endings_of, story=one), names))


class Least(unittest.TestCase):
    def tells(self, one, ending, *rows, **most):
        """One of these rows, and a paper of it."""
        row = told(least_row, story=one, ending=ending, **most)
        self.assertIn(row, [pairs_of(words) for words in rows])
        word, paper_row, heights = told(height_paper, story=one, ending=ending, **most)
        self.assertEqual((word, len(paper_row)), ("reached", len(row)))
        self.assertEqual(slowways.height_word(one, ending, (word, paper_row, heights)), ("let", len(row)))
        self.assertEqual(lets_height(one, ending, (word, paper_row, heights)), len(row))

    def never(self, one, ending, **most):
        self.assertIsNone(told(least_row, story=one, ending=ending, **most))
        paper = told(height_paper, story=one, ending=ending, **most)
        self.assertEqual(paper[0], "never")
        self.assertEqual(slowways.height_word(one, ending, paper), ("let", None))
        self.assertIsNone(lets_height(one, ending, paper))
        self.assertTrue(same(paper[1], tuple(sorted(slowways.lean_heights(one, 99)))))

    def test_at_once(self):
        self.tells(ENDED, "end", "")
        self.assertTrue(same(least_row(ENDED, "end"), ()))

    def test_behind_others(self):
        self.tells(ROUND, "end", "a.y c.x")
        self.tells(GROWS, "end", "a.y b.y")
        self.tells(TWO_ENDS, "good", "a.y c.x")

    def test_by_two_ways_of_like_length(self):
        one = walk("ax>b", "ay>c", "bx>d", "cx>d", "by>a", ending="end")
        self.tells(one, "end", "a.x b.x", "a.y c.x")
        two = story(scene("a", choices=(choice("x", ("to", "c")), choice("y", ("to", "b")))), scene("b", ending="end"), scene("c", ending="end"))
        self.tells(two, "end", "a.x", "a.y")

    def test_a_scene_that_ends_so_sooner(self):
        one = story(scene("a", choices=(choice("x", ("to", "b")), choice("y", ("to", "c")))), scene("b", choices=(choice("x", ("to", "d")),)),
                    scene("c", ending="other"), scene("d", ending="end"))
        self.tells(one, "end", "a.x b.x")
        self.tells(one, "other", "a.y")

    def test_never(self):
        self.never(TWO_ENDS, "bad")
        self.never(ENDED, "other")
        self.never(walk("ax>b", "bx>c", ("cx>d", {"test": NEVER}), ending="end"), "end")

    def test_by_stacks_and_numbers(self):
        own = (choice("x", ("into", "b", "a"), deeds=(("set", "n", ("plus", ("of", "n"), ("num", 1))),)),)
        rich = choice("y", ("to", "c"), test=("is", ("of", "n"), "=", ("num", 3)))
        one = story(scene("a", choices=(*own, rich)), scene("b", choices=(choice("x", ("back",)),)), scene("c", ending="end"), numbers=(("n", 0, 9, 0),))
        self.tells(one, "end", "a.x b.x a.x b.x a.x b.x a.y")


class Refused(unittest.TestCase):
    def test_no_ending(self):
        for function in BOTH:
            for one, ending in ((ROUND, "ends"), (ROUND, "d"), (story(scene("a")), "a"), (TWO_ENDS, "e")):
                # ahead of NoMore
                for most in ({}, {"most": 0}, {"most": 99}):
                    self.assertTrue(same(refusal(function, NoEnding, "name", story=one, ending=ending, **most), (ending,)))

    def test_the_very_name(self):
        name = "".join(["no", "ne"])
        for function in BOTH:
            with self.assertRaises(NoEnding) as caught:
                function(ROUND, name)
            self.assertIs(caught.exception.name, name)
            self.assertIsInstance(caught.exception, LackError)

    def test_no_more_however_soon_it_is_come_to(self):
        for function in BOTH:
            for one, ending, many in ((ROUND, "end", 4), (GROWS, "end", 6), (TWO_ENDS, "bad", 4), (ENDED, "end", 1)):
                self.assertTrue(told(function, story=one, ending=ending, most=many) is not None or ending == "bad")
                for most in range(many):
                    self.assertTrue(same(refusal(function, NoMore, "many", story=one, ending=ending, most=most), (most,)))

    def test_left_out(self):
        one = walk(*((f"a{name}>a", {"deeds": (("set", name, ("plus", ("of", name), ("num", 1))),)}) for name in "klm"), "ax>d",
                   ("ay>b", {"label": tuple(("worth", ("of", name)) for name in "klm")}), numbers=tuple((name, 0, 9, 0) for name in "klm"), ending="end")
        for function in BOTH:
            self.assertEqual(refusal(function, NoMore, "many", story=one, ending="end"), (400,))
        self.assertEqual(least_row(one, "end", most=1002), (("a", "x"),))


class Many(unittest.TestCase):
    def test_as_slowly(self):
        found = []
        for seed in range(120):
            maker = Maker(seed, lively=True)
            one = maker.story()
            heights = slowways.lean_heights(one, 40)
            for ending in endings_of(one):
                if heights is None:
                    for function in BOTH:
                        self.assertEqual(refusal(function, NoMore, "many", story=one, ending=ending, most=40), (40,))
                    continue
                least = min((height for here, height in heights.items() if slowways.ending(one, here) == ending), default=None)
                row = least_row(one, ending, most=40)
                paper = height_paper(one, ending, most=40)
                self.assertEqual(slowways.height_word(one, ending, paper), ("let", least))
                self.assertEqual(lets_height(one, ending, paper), least)
                found.append(None if row is None else len(row))
                self.assertEqual(found[-1], least)
                if row is not None:
                    self.assertEqual(slowways.ending(one, run(one, row)[-1]), ending)
        for length in (None, 0, 1, 2):
            self.assertGreater(found.count(length), 2, length)

    def test_a_never_paper_is_a_class_paper(self):
        paper = height_paper(TWO_ENDS, "bad")
        self.assertTrue(same(paper[1], tuple(sorted(slowways.lean_heights(TWO_ENDS, 99)))))
        self.assertEqual(height_paper(ROUND, "end")[2][0], (ROUND_STANDS[0], 0))


if __name__ == "__main__":
    unittest.main()

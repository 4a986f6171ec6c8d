"""Whether TESTS are met."""

import itertools
import unittest

from forktales.asking import is_met
from tests.helpers import told
from tests.samples import ALWAYS, BIG, TOUR, TOUR_FIRST, at_with, changed, scene, stand, story

NEVER = ("any", ())


class Met(unittest.TestCase):
    def met(self, test, wheres="lake road road", **parts):
        answer = told(is_met, story=TOUR, stand=changed(TOUR_FIRST, wheres=at_with(wheres), **parts), test=test)
        self.assertIn(answer, (True, False))
        self.assertIsInstance(answer, bool)
        return answer

    def test_is(self):
        for one, other in itertools.product((-BIG, -1, 0, 1, BIG), repeat=2):
            for sign, truth in (("<", one < other), ("=", one == other), (">", one > other)):
                self.assertIs(self.met(("is", ("num", one), sign, ("num", other))), truth)

    def test_worths_below_nothing(self):
        below = ("minus", ("num", 0), ("of", "coin"))
        self.assertTrue(self.met(("is", below, "<", ("of", "luck"))))
        self.assertTrue(self.met(("is", below, "=", ("num", -3))))
        self.assertFalse(self.met(("is", below, ">", ("of", "luck"))))

    def test_seen(self):
        for many in (0, 1, 9):
            for k in (0, 1, 9):
                self.assertIs(self.met(("is", ("seen", "map"), "=", ("num", k)), seen=(("map", many),)), many == k)

    def test_at_asks_the_place(self):
        self.assertTrue(self.met(("at", "ann", "lake")))
        self.assertFalse(self.met(("at", "ann", "road")))
        self.assertTrue(self.met(("at", "ann", "road"), "=bob =cat road"))
        self.assertFalse(self.met(("at", "ann", "lake"), "=bob =cat road"))

    def test_with_is_of_the_very_one_alone(self):
        chain = "=bob =cat road"
        self.assertTrue(self.met(("with", "ann", "bob"), chain))
        self.assertTrue(self.met(("with", "bob", "cat"), chain))
        self.assertFalse(self.met(("with", "ann", "cat"), chain))
        self.assertFalse(self.met(("with", "cat", "bob"), chain))
        self.assertFalse(self.met(("with", "cat", "cat"), chain))
        self.assertFalse(self.met(("with", "bob", "cat"), "lake road road"))
        self.assertFalse(self.met(("with", "ann", "ann"), "lake road road"))

    def test_a_place_and_a_figure_of_one_name(self):
        one = story(scene("a"), places=("ann", "bob"), figures=(("ann", "bob"), ("bob", "ann")))
        at = stand(wheres=(("at", "bob"), ("at", "ann")))
        self.assertFalse(told(is_met, story=one, stand=at, test=("with", "ann", "bob")))
        self.assertTrue(told(is_met, story=one, stand=at, test=("at", "ann", "bob")))
        self.assertTrue(is_met(one, stand(wheres=(("with", "bob"), ("at", "ann"))), ("at", "ann", "ann")))

    def test_not(self):
        self.assertFalse(self.met(("not", ALWAYS)))
        self.assertTrue(self.met(("not", NEVER)))
        self.assertTrue(self.met(("not", ("not", ALWAYS))))

    def test_void_ones(self):
        self.assertTrue(self.met(("all", ())))
        self.assertFalse(self.met(("any", ())))

    def test_all_and_any(self):
        for many in (1, 2, 3, 6):
            for truths in itertools.product((True, False), repeat=many):
                tests = tuple(ALWAYS if truth else NEVER for truth in truths)
                self.assertIs(self.met(("all", tests)), all(truths))
                self.assertIs(self.met(("any", tests)), any(truths))

    def test_four_within_one_another(self):
        at_lake = ("is", ("of", "coin"), "=", ("num", 3))
        test = ("all", (ALWAYS, ("any", (NEVER, ("not", ("all", (ALWAYS, at_lake)))))))
        self.assertFalse(self.met(test))
        self.assertTrue(self.met(test, numbers=(4, 0)))

    def test_long_ones(self):
        test = ALWAYS
        for _ in range(3001):
            test = ("not", test)
        self.assertIs(is_met(story(scene("a")), stand(), test), False)


if __name__ == "__main__":
    unittest.main()

"""What is remembered at first, and where figures are."""

import unittest

from forktales.memory import first_stand, place_of
from tests.helpers import same, told
from tests.samples import TOUR, TOUR_FIRST, at_with, changed, choice, largest, scene, stand, story

ASKS_A = (("worth", ("seen", "a")),)


class First(unittest.TestCase):
    def first(self, one):
        return told(first_stand, story=one)

    def test_void(self):
        self.assertTrue(same(self.first(story(scene("a"))), ("a", (), (), (), (), (), 0)))

    def test_the_tour(self):
        self.assertTrue(same(self.first(TOUR), TOUR_FIRST))

    def test_numbers_are_as_at_first(self):
        one = story(scene("a"), numbers=(("n", -5, 9, -2), ("o", 0, 0, 0)))
        self.assertTrue(same(self.first(one), stand(numbers=(-2, 0))))

    def test_begin_is_seen_once_where_it_is_asked(self):
        self.assertTrue(same(self.first(story(scene("a", pieces=ASKS_A))), stand(seen=(("a", 1),))))
        one = story(scene("a"), scene("b", choices=(choice("c", deeds=(("set", "n", ("seen", "b")),)),)), begin="b", numbers=(("n", 0, 9, 0),))
        self.assertTrue(same(self.first(one), stand(scene="b", numbers=(0,), seen=(("b", 1),))))

    def test_asked_ones_alone_are_counted(self):
        one = story(scene("a", pieces=(("worth", ("seen", "c")),)), scene("b"), scene("c", pieces=(("worth", ("seen", "d")),)), scene("d"))
        self.assertTrue(same(self.first(one), stand(seen=(("c", 0), ("d", 0)))))

    def test_what_asks_where_none_come_to_counts(self):
        one = story(scene("a"), scene("b", pieces=ASKS_A, ending="end"))
        self.assertEqual(self.first(one), stand(seen=(("a", 1),)))

    def test_digits(self):
        for digits in ((), (7,), (9, 8, 7, 6, 5, 4)):
            self.assertTrue(same(self.first(story(scene("a"), digits=digits)), stand()))

    def test_largest(self):
        wheres = (("at", "inn"),) * 4
        seen = (("a", 1), ("d", 0), ("e", 0), ("f", 0))
        self.assertTrue(same(self.first(largest()), stand(numbers=(0, 1, 2, 3), wheres=wheres, seen=seen)))

    def test_what_is_remembered_does_not_hang_on_what_was_told(self):
        self.assertEqual(first_stand(TOUR), first_stand(TOUR))


class Places(unittest.TestCase):
    def place(self, wheres, figure):
        return told(place_of, story=TOUR, stand=changed(TOUR_FIRST, wheres=at_with(wheres)), figure=figure)

    def test_at(self):
        for figure, place in (("ann", "lake"), ("bob", "road"), ("cat", "attic")):
            self.assertEqual(self.place("lake road attic", figure), place)

    def test_with(self):
        self.assertEqual(self.place("=bob road lake", "ann"), "road")
        self.assertEqual(self.place("inn =ann lake", "bob"), "inn")

    def test_chains(self):
        for figure in ("ann", "bob", "cat"):
            self.assertEqual(self.place("=bob =cat attic", figure), "attic")
            self.assertEqual(self.place("=cat inn =bob", figure), "inn")
            self.assertEqual(self.place("lake =ann =bob", figure), "lake")


if __name__ == "__main__":
    unittest.main()

"""DEEDS done."""

import unittest

from forktales.deeds import deed_done
from tests.helpers import same, told
from tests.samples import TOUR, TOUR_FIRST, at_with, changed, scene, stand, story

# All but what a DEED changes is unlike what it is at first.
AT = changed(TOUR_FIRST, scene="vault", stack=("hall", "map"), numbers=(5, 0), seen=(("map", 9),), made=(("hall", "pay"),), digit=1)


class Done(unittest.TestCase):
    def done(self, deed, **parts):
        return told(deed_done, story=TOUR, stand=changed(AT, **parts), deed=deed)

    def makes(self, deed, before, **after):
        told_stand = self.done(deed, **before)
        self.assertTrue(same(told_stand, changed(changed(AT, **before), **after)), told_stand)

    def cannot(self, deed, **parts):
        self.assertIsNone(self.done(deed, **parts))

    def moves(self, deed, before, after):
        self.makes(deed, {"wheres": at_with(before)}, wheres=at_with(after))

    def stays(self, deed, before):
        self.cannot(deed, wheres=at_with(before))


class Numbers(Done):
    def test_set_within_the_bounds(self):
        for name, k, low, high in (("coin", 0, 0, 9), ("luck", 1, -9, 9)):
            for amount in (low, high, 4):
                numbers = (amount, 0) if k == 0 else (5, amount)
                self.makes(("set", name, ("num", amount)), {}, numbers=numbers)
            for amount in (low - 1, high + 1, 10 ** 59, -10 ** 59):
                self.cannot(("set", name, ("num", amount)))

    def test_set_to_a_worth(self):
        self.makes(("set", "luck", ("minus", ("of", "luck"), ("plus", ("of", "coin"), ("num", 1)))), {}, numbers=(5, -6))
        self.makes(("set", "coin", ("seen", "map")), {}, numbers=(9, 0))
        self.cannot(("set", "coin", ("plus", ("seen", "map"), ("num", 1))))
        self.makes(("set", "coin", ("of", "coin")), {}, numbers=(5, 0))

    def test_draw(self):
        self.makes(("draw", "luck"), {"digit": 0}, numbers=(5, 3), digit=1)
        self.makes(("draw", "coin"), {"digit": 1}, numbers=(0, 0), digit=2)

    def test_draw_the_last(self):
        self.makes(("draw", "luck"), {"digit": 2}, numbers=(5, 7), digit=0)
        one = story(scene("a"), numbers=(("n", 0, 9, 0),), digits=(4,))
        self.assertTrue(same(told(deed_done, story=one, stand=stand(numbers=(0,)), deed=("draw", "n")), stand(numbers=(4,))))

    def test_draw_without_digits(self):
        one = story(scene("a"), numbers=(("n", 0, 9, 0),))
        self.assertIsNone(told(deed_done, story=one, stand=stand(numbers=(0,)), deed=("draw", "n")))

    def test_draw_out_of_bounds(self):
        one = story(scene("a"), numbers=(("n", 1, 8, 1),), digits=(0, 9, 1, 8))
        for digit, amount in ((0, None), (1, None), (2, 1), (3, 8)):
            after = None if amount is None else stand(numbers=(amount,), digit=(digit + 1) % 4)
            self.assertTrue(same(told(deed_done, story=one, stand=stand(numbers=(1,), digit=digit), deed=("draw", "n")), after))


class Figures(Done):
    def test_go_through_a_door_from_either_side(self):
        self.moves(("go", "ann", "road"), "lake road inn", "road road inn")
        self.moves(("go", "ann", "inn"), "lake road inn", "inn road inn")
        self.moves(("go", "cat", "attic"), "lake road inn", "lake road attic")

    def test_who_is_with_one_that_is_called_as_a_place_does_not_go(self):
        one = story(scene("a"), places=("inn", "road"), doors=(("inn", "road"),), figures=(("ann", "inn"), ("inn", "inn")))
        at = stand(wheres=(("with", "inn"), ("at", "inn")))
        self.assertIsNone(told(deed_done, story=one, stand=at, deed=("go", "ann", "road")))
        after = stand(wheres=(("with", "inn"), ("at", "road")))
        self.assertTrue(same(told(deed_done, story=one, stand=at, deed=("go", "inn", "road")), after))

    def test_go_without_a_door(self):
        for place in ("attic", "lake"):
            self.stays(("go", "ann", place), "lake road inn")
        self.stays(("go", "ann", "lake"), "attic lake inn")

    def test_go_of_one_who_is_with_another(self):
        self.stays(("go", "ann", "lake"), "=bob road inn")
        self.stays(("go", "ann", "lake"), "=bob =cat inn")

    def test_go_takes_those_along_who_are_with_it(self):
        self.moves(("go", "cat", "lake"), "=bob =cat inn", "=bob =cat lake")

    def test_put(self):
        for place in ("attic", "inn", "lake", "road"):
            self.moves(("put", "ann", place), "lake road inn", place + " road inn")
            self.moves(("put", "ann", place), "=bob road inn", place + " road inn")
            self.moves(("put", "cat", place), "=bob =cat inn", "=bob =cat " + place)

    def test_join(self):
        self.moves(("join", "ann", "bob"), "lake lake inn", "=bob lake inn")
        self.moves(("join", "bob", "ann"), "lake lake inn", "lake =ann inn")

    def test_join_of_oneself(self):
        self.stays(("join", "ann", "ann"), "lake lake inn")
        self.stays(("join", "ann", "ann"), "=bob lake inn")

    def test_join_of_one_who_is_with_one(self):
        self.stays(("join", "ann", "bob"), "lake =ann lake")
        self.stays(("join", "ann", "cat"), "lake =ann =bob")
        self.stays(("join", "bob", "cat"), "lake =ann =bob")

    def test_join_of_another_one(self):
        self.moves(("join", "cat", "ann"), "lake =ann =bob", "lake =ann =ann")
        self.moves(("join", "bob", "cat"), "lake =ann =ann", "lake =cat =ann")
        self.moves(("join", "ann", "bob"), "=bob lake inn", "=bob lake inn")

    def test_join_of_one_elsewhere(self):
        self.stays(("join", "ann", "bob"), "lake road inn")
        self.stays(("join", "ann", "bob"), "lake =cat inn")
        self.moves(("join", "ann", "bob"), "inn =cat inn", "=bob =cat inn")

    def test_leave(self):
        self.moves(("leave", "ann"), "=bob road inn", "road road inn")
        self.moves(("leave", "ann"), "=bob =cat inn", "inn =cat inn")
        self.moves(("leave", "bob"), "=bob =cat inn", "=bob inn inn")

    def test_leave_of_one_who_is_with_nobody(self):
        self.stays(("leave", "ann"), "lake road inn")
        self.stays(("leave", "cat"), "=bob =cat inn")

    def test_a_scene_with_an_ending_bars_no_deed(self):
        self.makes(("put", "ann", "inn"), {"scene": "yard"}, wheres=at_with("inn road road"))


if __name__ == "__main__":
    unittest.main()

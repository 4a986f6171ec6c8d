"""What SUMS are worth."""

import unittest

from forktales.sums import worth_of
from tests.helpers import same, told
from tests.samples import BIG, TOUR, TOUR_FIRST, changed, scene, stand, story


class Worths(unittest.TestCase):
    def worth(self, amount, **parts):
        return told(worth_of, story=TOUR, stand=changed(TOUR_FIRST, **parts), amount=amount)

    def test_numbers_by_figures(self):
        for n in (0, 1, -1, BIG, -BIG):
            self.assertTrue(same(self.worth(("num", n)), n))

    def test_names(self):
        self.assertTrue(same(self.worth(("of", "coin")), 3))
        self.assertTrue(same(self.worth(("of", "luck")), -1))
        self.assertTrue(same(self.worth(("of", "luck"), numbers=(0, 9)), 9))

    def test_seen(self):
        for many in (0, 1, 9):
            self.assertTrue(same(self.worth(("seen", "map"), seen=(("map", many),)), many))

    def test_plus_and_minus_in_order(self):
        self.assertEqual(self.worth(("plus", ("of", "coin"), ("num", 4))), 7)
        self.assertEqual(self.worth(("minus", ("of", "coin"), ("num", 4))), -1)
        self.assertEqual(self.worth(("minus", ("num", 4), ("of", "coin"))), 1)

    def test_below_nothing(self):
        self.assertEqual(self.worth(("minus", ("minus", ("of", "luck"), ("num", 9)), ("plus", ("num", -1), ("num", BIG)))), -9 - BIG)

    def test_four_within_one_another(self):
        amount = ("num", 1)
        for k in range(4):
            amount = ("minus", ("num", 10 ** k), amount)
        self.assertEqual(self.worth(amount), 1000 - (100 - (10 - (1 - 1))))
        for _ in range(4):
            amount = ("plus", amount, amount)
        self.assertEqual(self.worth(amount), 910 * 16)

    def test_a_number_beyond_its_bounds_is_worth_itself(self):
        self.assertEqual(self.worth(("plus", ("of", "coin"), ("of", "coin")), numbers=(9, 0)), 18)

    def test_long_sums(self):
        amount = ("num", 0)
        for _ in range(3000):
            amount = ("plus", amount, ("num", 1))
        self.assertEqual(worth_of(story(scene("a")), stand(), amount), 3000)


if __name__ == "__main__":
    unittest.main()

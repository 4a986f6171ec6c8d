"""The module of numbers."""

import unittest

from forktales import bounds


class Bounds(unittest.TestCase):
    def test_each_number(self):
        told = (bounds.MOST, bounds.PAIRS, bounds.DEEP, bounds.SEEN)
        self.assertEqual(told, (400, 4000, 3, 9))
        self.assertEqual([type(number) for number in told], [int, int, int, int])


if __name__ == "__main__":
    unittest.main()

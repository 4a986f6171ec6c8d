"""Whether two things are the same, kind by kind."""

import unittest

from forktales.sameness import are_same
from tests.helpers import STRANGE, deep, same


class Same(unittest.TestCase):
    def test_each_with_each(self):
        things = [*STRANGE, 2, "1", (1,), [1], (True,), [True], ((1,),), ([1],), [(1,)], (1, 1), (0,), (None,), (1, "a"), ("a", 1)]
        for one in things:
            for other in things:
                self.assertIs(are_same(one, other), same(one, other), (one, other))

    def test_far_within(self):
        for one, other in ((1, 1), (1, True), (0, False), ((), ()), ((), []), (None, None), (1, 2), ("a", "b")):
            self.assertIs(are_same(deep(one, 30), deep(other, 30)), same(one, other))
            self.assertIs(are_same((0, [one]), (0, [other])), same(one, other))

    def test_the_first_and_the_last_of_many(self):
        self.assertTrue(are_same((1,) * 5000, (1,) * 5000))
        self.assertFalse(are_same((1,) * 5000, (1,) * 4999 + (True,)))
        self.assertFalse(are_same((1,) * 5000, (True,) + (1,) * 4999))
        self.assertFalse(are_same((1,) * 5000, (1,) * 4999))


if __name__ == "__main__":
    unittest.main()

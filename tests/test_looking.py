"""Looks, and looks kept over edits."""

import unittest

from forktales.looking import looks_kept, looks_of
from forktales.namings import namings_of
from tests.helpers import same, told
from tests.samples import ALWAYS, INN, SMALL, TOUR, VOID, choice, scene, story
from tests.storymaker import Maker

NEVER = ("any", ())


def is_there(one, naming):
    sort, name = naming
    rows = {"number": one[0], "figure": one[3], "scene": one[5]}
    return name in one[1] if sort == "place" else name in [row[0] for row in rows[sort]]


def slow_looks(one):
    return tuple((row[0], tuple(sorted(set(naming for naming in namings_of(row) if not is_there(one, naming))))) for row in one[5])


def slow_anew(one, other):
    ones = {row[0]: row for row in one[5]}
    return tuple(
        row[0] for row in other[5]
        if row[0] not in ones or ones[row[0]] != row or any(is_there(one, naming) is not is_there(other, naming) for naming in namings_of(row))
    )


class Looks(unittest.TestCase):
    def tells(self, one, looks):
        answer = told(looks_of, story=one)
        self.assertTrue(same(answer, looks), answer)
        self.assertTrue(same(slow_looks(one), looks))

    def test_whole_ones(self):
        for one in (TOUR, INN, story(scene("a"))):
            self.tells(one, tuple((row[0], ()) for row in one[5]))

    def test_none(self):
        self.tells(VOID, ())
        self.tells(SMALL, (("b", ()),))

    def test_what_is_not_there(self):
        own = choice("x", ("into", "z", "b"), label=(("worth", ("plus", ("of", "m"), ("seen", "y"))),), test=("at", "ann", "inn"),
                     deeds=(("join", "bob", "ann"), ("draw", "n")))
        one = story(scene("a", pieces=(("place", "ann"), ("only", "pia", (("place", "zed"),))), choices=(own,), woven=("b", "c")), scene("b"),
                    numbers=(("n", 0, 9, 0),), figures=(("bob", "inn"),), begin="x", doors=(("x", "y"),))
        look = (("figure", "ann"), ("figure", "zed"), ("number", "m"), ("place", "inn"), ("scene", "c"), ("scene", "y"), ("scene", "z"))
        self.tells(one, (("a", look), ("b", ())))

    def test_each_once_and_rising(self):
        one = story(scene("a", choices=(choice("x", ("into", "z", "z")), choice("y", ("into", "c", "z"))), woven=("z", "b")))
        self.tells(one, (("a", (("scene", "b"), ("scene", "c"), ("scene", "z"))),))


# From ONE: a is the same, b another one, c is gone, d is new.
ONE = story(scene("a", woven=("b",)), scene("b"), scene("c"))
OTHER = story(scene("a", woven=("b",)), scene("b", ending="end"), scene("d"))


class Anew(unittest.TestCase):
    def tells(self, one, other, *names):
        looks = looks_of(one)
        answer = told(looks_kept, one=one, other=other, looks=looks)
        self.assertTrue(same(answer, (looks_of(other), names)), answer)
        self.assertTrue(same(slow_anew(one, other), names))

    def test_itself(self):
        for one in (TOUR, INN, VOID, SMALL, ONE):
            self.tells(one, one)

    def test_new_gone_and_otherwise(self):
        self.tells(ONE, OTHER, "b", "d")
        self.tells(OTHER, ONE, "b", "c")

    def test_what_it_names_comes_or_goes_elsewhere(self):
        leads = scene("a", choices=(choice("x", ("to", "z")),))
        self.tells(story(leads, scene("b")), story(leads, scene("b"), scene("z")), "a", "z")
        self.tells(story(leads, scene("b"), scene("z")), story(leads, scene("b")), "a")
        for pieces, parts in (((("worth", ("of", "n")),), {"numbers": (("n", 0, 9, 0),)}), ((("place", "ann"),), {"figures": (("ann", "inn"),)}),
                              ((("if", ("at", "ann", "inn"), (), ()),), {"places": ("inn",)})):
            own = scene("a", pieces=pieces)
            self.tells(story(own, scene("b")), story(own, scene("b"), **parts), "a")
            self.tells(story(own, scene("b"), **parts), story(own, scene("b")), "a")

    def test_what_it_names_is_another_one(self):
        """There is something of the sort called so in both: nothing is looked at anew."""
        own = scene("a", pieces=(("worth", ("of", "n")), ("place", "ann")), woven=("b",))
        one = story(own, scene("b"), numbers=(("n", 0, 9, 0),), figures=(("ann", "inn"),))
        other = story(own, scene("b"), numbers=(("m", 0, 1, 1), ("n", -5, 9, 3)), figures=(("ann", "x"), ("cat", "x")), places=("x",), doors=(("x", "y"),))
        self.tells(one, other)

    def test_a_name_of_another_sort(self):
        own = scene("a", pieces=(("worth", ("of", "n")),))
        self.tells(story(own), story(own, figures=(("n", "inn"),), places=("n",)))

    def test_what_it_does_not_name(self):
        own = scene("a", woven=("b",))
        self.tells(story(own, scene("b")), story(own, scene("b"), scene("c"), numbers=(("n", 0, 9, 0),), begin="c", digits=(1,)), "c")

    def test_what_it_comes_to_turns_nothing(self):
        met, unmet = (scene("a", choices=(choice("x", ("to", "b"), test=test),)) for test in (ALWAYS, NEVER))
        self.tells(story(met, scene("b")), story(unmet, scene("b")), "a")
        own = scene("a", choices=(choice("x", ("to", "b"), test=("is", ("of", "n"), ">", ("num", 3))),))
        self.tells(story(own, scene("b"), numbers=(("n", 0, 9, 0),)), story(own, scene("b"), numbers=(("n", 0, 9, 9),)))

    def test_looks_handed_in_are_told_of_what_is_not_looked_at_anew(self):
        kept = (("a", (("scene", "marked"),)), ("b", (("number", "marked"),)), ("c", ()))
        looks, names = told(looks_kept, one=ONE, other=OTHER, looks=kept)
        self.assertTrue(same(looks, (("a", (("scene", "marked"),)), ("b", ()), ("d", ()))))
        self.assertTrue(same(names, ("b", "d")))


class Many(unittest.TestCase):
    def test_edits(self):
        anew = []
        for seed in range(120):
            maker = Maker(seed)
            one = maker.story()
            other = maker.edited(one)
            if seed % 2:
                one = (maker.some(one[0]), one[1], one[2], one[3], one[4], maker.some(one[5], 5), one[6])
                other = (maker.some(other[0]), maker.some(other[1]), *other[2:5], maker.some(other[5], 5), other[6])
            self.assertTrue(same(looks_of(one), slow_looks(one)))
            looks, names = looks_kept(one, other, looks=looks_of(one))
            self.assertTrue(same(looks, looks_of(other)))
            self.assertTrue(same(names, slow_anew(one, other)))
            self.assertTrue(same(looks_kept(one, one, looks=looks_of(one)), (looks_of(one), ())))
            anew.append(len(other[5]) - len(names))
        self.assertGreater(len([many for many in anew if many]), 50)
        self.assertIn(0, anew)


if __name__ == "__main__":
    unittest.main()

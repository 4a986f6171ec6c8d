"""Any thing looked at as a class paper."""

import unittest

from forktales.classchecker import lets_classes
from forktales.classes import lean_stands
from forktales.errors import NoMore
from tests import slowways
from tests.helpers import STRANGE, bent, deep, same, verdict
from tests.pairsamples import walk
from tests.samples import TOUR, changed, scene, stand, story
from tests.storymaker import Maker
from tests.waysamples import ENDED, GROWS, GROWS_LEAN, ROUND, ROUND_STANDS, at

# From a to b and back; c and d are never come to.
SHUTTLE = walk("ax>b", "bx>a", "cx>d", "cy>a")


class Checked(unittest.TestCase):
    def told(self, one, thing, answer):
        found = verdict(lets_classes, story=one, thing=thing)
        self.assertTrue(same(found, answer), (found, thing))
        self.assertTrue(same(slowways.classes_word(one, thing), answer))

    def let(self, one, thing):
        self.told(one, thing, ("let", len(thing)))

    def refused(self, one, thing, word, place):
        self.told(one, thing, ("refused", word, place))

    def test_let(self):
        self.let(ROUND, ROUND_STANDS)
        self.let(GROWS, GROWS_LEAN)
        self.let(ENDED, (stand(),))
        self.let(story(scene("a")), (stand(),))

    def test_more_than_are_in_reach(self):
        names = {name: stand(scene=name) for name in "abcd"}
        self.let(SHUTTLE, (names["a"], names["b"]))
        self.let(SHUTTLE, (names["a"], names["b"], names["d"]))
        self.let(SHUTTLE, (names["a"], names["b"], names["c"], names["d"]))
        # as long as it is closed
        self.refused(SHUTTLE, (names["a"], names["b"], names["c"]), "step", (2, 0))
        self.let(SHUTTLE, (names["a"], stand(stack=("b",)), names["b"], stand(scene="b", stack=("b",))))
        self.refused(SHUTTLE, (names["a"], stand(stack=("b",)), names["b"]), "step", (1, 0))

    def test_shape(self):
        for thing in STRANGE:
            if type(thing) is not tuple:
                self.refused(ROUND, thing, "shape", -1)
        self.refused(ROUND, list(ROUND_STANDS), "shape", -1)
        self.refused(ROUND, {"a": 1}, "shape", -1)

    def test_stand(self):
        for bad in (*STRANGE, deep((), 28), list(stand()), stand()[:6], (*stand(), 0), stand(scene="z"), stand(stack=("z",)), stand(numbers=(0,)),
                    stand(made=(("a", "x"),)), stand(digit=1), stand(digit=False), (stand(), 0)):
            self.refused(ROUND, (bad,), "stand", 0)
            for k in range(4):
                self.refused(ROUND, (*ROUND_STANDS[:k], bad, *ROUND_STANDS[k:]), "stand", k)
        self.refused(GROWS, (at("a"), at("a", False)), "stand", 1)
        self.refused(GROWS, (at("a"), at("a", 10)), "stand", 1)

    def test_lean(self):
        self.refused(GROWS, (*GROWS_LEAN[:4], at("b", 1)), "lean", 4)
        self.refused(GROWS, (at("d", 7),), "lean", 0)
        # ahead of "rise", behind "stand"
        self.refused(GROWS, (at("b"), at("b", 3), at("z")), "lean", 1)
        self.refused(GROWS, (at("b", 3), at("a")), "lean", 0)

    def test_rise(self):
        self.refused(ROUND, ROUND_STANDS[:1] * 2, "rise", 1)
        self.refused(ROUND, ROUND_STANDS + ROUND_STANDS[3:], "rise", 4)
        self.refused(ROUND, ROUND_STANDS[::-1], "rise", 1)
        self.refused(ROUND, (ROUND_STANDS[0], ROUND_STANDS[2], ROUND_STANDS[1], None), "rise", 2)

    def test_first(self):
        self.refused(ROUND, (), "first", -1)
        self.refused(ROUND, ROUND_STANDS[1:], "first", -1)
        self.refused(GROWS, GROWS_LEAN[1:], "first", -1)
        # behind all the stands, ahead of all the steps
        self.refused(ROUND, (*ROUND_STANDS[1:3], None), "stand", 2)
        self.refused(ROUND, ROUND_STANDS[1:2], "first", -1)

    def test_the_first_made_lean(self):
        one = walk(numbers=(("n", 2, 9, 5),))
        self.let(one, (stand(numbers=(5,)),))
        self.refused(one, (stand(numbers=(2,)),), "lean", 0)

    def test_step(self):
        for out, place in ((1, (0, 0)), (2, (0, 1)), (3, (2, 0))):
            self.refused(ROUND, ROUND_STANDS[:out] + ROUND_STANDS[out + 1:], "step", place)
        self.refused(ROUND, ROUND_STANDS[:1], "step", (0, 0))

    def test_step_by_the_number_of_the_offer(self):
        # at 3 the first choice isn't offered, so y is number 0
        self.refused(GROWS, (at("a", 0), at("a", 1), at("a", 2), at("a", 3)), "step", (0, 1))
        one = walk(("ax>b", {"test": ("any", ())}), "ay>a", "az>c")
        self.refused(one, (stand(),), "step", (0, 1))
        self.refused(one, (stand(), stand(scene="b")), "step", (0, 1))
        self.let(one, (stand(), stand(scene="c")))


class Bent(unittest.TestCase):
    def test_each_place(self):
        for one, paper in ((ROUND, ROUND_STANDS), (GROWS, GROWS_LEAN)):
            for thing in bent(paper):
                self.assertTrue(same(verdict(lets_classes, story=one, thing=thing), slowways.classes_word(one, thing)), thing)

    def test_many(self):
        let = 0
        for seed in range(60):
            maker = Maker(seed, lively=True)
            one = maker.story()
            try:
                paper = tuple(here for here, _ in lean_stands(one, most=20))
            except NoMore:
                continue
            let += 1
            self.assertTrue(same(verdict(lets_classes, story=one, thing=paper), ("let", len(paper))))
            for k in range(len(paper)):
                less = paper[:k] + paper[k + 1:]
                found = verdict(lets_classes, story=one, thing=less)
                self.assertTrue(same(found, slowways.classes_word(one, less)))
                # all of them are in reach, so not one may be left out
                self.assertEqual(found[0], "refused")
            for other in (maker.right_stand(one), changed(paper[-1], digit=1), None):
                self.assertTrue(same(verdict(lets_classes, story=one, thing=(*paper, other)), slowways.classes_word(one, (*paper, other))))
        self.assertGreater(let, 30)

    def test_the_tour(self):
        paper = tuple(here for here, _ in lean_stands(TOUR, most=1000))
        self.assertTrue(same(verdict(lets_classes, story=TOUR, thing=paper), ("let", len(paper))))


if __name__ == "__main__":
    unittest.main()

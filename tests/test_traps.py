"""Stuck stands, traps, trap papers."""

import unittest

from forktales.errors import NoMore
from forktales.trapchecker import lets_trap
from forktales.traps import stuck_stands, trap_paper, trap_stands
from tests import slowtale, slowways
from tests.helpers import refusal, same, told
from tests.locksamples import way
from tests.pairsamples import NEVER
from tests.samples import TOUR, changed, choice, scene, stand, story
from tests.storymaker import Maker
from tests.trapsamples import FREE, RING, RING_STANDS
from tests.waysamples import ENDED, GROWS, GROWS_LEAN, ROUND, at, pairs_of

BOTH = (stuck_stands, trap_stands)


class Traps(unittest.TestCase):
    def tells(self, one, stuck, traps, many):
        """Just these, told of just as many as are in reach, refused of one fewer."""
        for most in ({}, {"most": many}, {"most": many + 1}):
            self.assertTrue(same(told(stuck_stands, story=one, **most), tuple(stuck)))
            self.assertTrue(same(told(trap_stands, story=one, **most), tuple(traps)))
        for function in BOTH:
            for most in {0, many // 2, many - 1}:
                self.assertTrue(same(refusal(function, NoMore, "many", story=one, most=most), (most,)))

    def test_none(self):
        self.tells(FREE, (), (), 4)
        self.tells(ROUND, (), (), 4)
        self.tells(GROWS, (), (), 6)

    def test_without_offers(self):
        self.tells(story(scene("a")), (stand(),), (stand(),), 1)
        self.tells(story(scene("a", ending="end")), (), (), 1)
        # with an ending it isn't stuck, though it has no offers
        self.tells(ENDED, (), (), 1)

    def test_a_ring(self):
        names = RING_STANDS
        self.tells(RING, (names["b"],), (names["b"], names["c"], names["d"]), 6)
        self.tells(way("a x>b", "b x>a", "c =end"), (), (names["a"], names["b"]), 2)

    def test_left_by_a_test_that_is_never_met(self):
        names = RING_STANDS
        self.tells(way("a x>b", "b x>a !y>c", "c =end"), (), (names["a"], names["b"]), 2)
        self.tells(way("a x>b", "b x>a y>c", "c =end"), (), (), 3)
        self.tells(way("a !x>b", "b =end"), (names["a"],), (names["a"],), 1)

    def test_those_in_reach_alone(self):
        self.tells(way("a x>b", "b =end", "c x>d", "d x>c"), (), (), 2)

    def test_any_ending_does(self):
        self.tells(way("a x>b y>c", "b =end", "c =other"), (), (), 3)

    def test_lean_ones(self):
        # in c the number is no more asked for
        one = story(
            scene("a", choices=(choice("x", ("to", "a"), test=("is", ("of", "n"), "<", ("num", 2)), deeds=(("set", "n", ("plus", ("of", "n"), ("num", 1))),)),
                                choice("y", ("to", "c")), choice("z", ("to", "b"), test=("is", ("of", "n"), "=", ("num", 0))))),
            scene("b", ending="end"), scene("c", choices=(choice("x", ("back",)),)), numbers=(("n", 0, 9, 0),),
        )
        self.tells(one, (at("c"),), (at("a", 1), at("a", 2), at("c")), 5)

    def test_stacks(self):
        one = story(scene("a", choices=(choice("x", ("into", "b", "c")), choice("y", ("to", "b")))), scene("b", choices=(choice("x", ("back",)),)),
                    scene("c", ending="end"))
        self.tells(one, (stand(scene="b"),), (stand(scene="b"),), 4)

    def test_left_out(self):
        one = story(scene("a", choices=tuple(
            choice(name, ("to", "a"), deeds=(("set", name, ("plus", ("of", name), ("num", 1))),), label=(("worth", ("of", name)),)) for name in "klm")),
            numbers=tuple((name, 0, 9, 0) for name in "klm"))
        for function in BOTH:
            self.assertEqual(refusal(function, NoMore, "many", story=one), (400,))
        self.assertEqual(refusal(trap_paper, NoMore, "many", story=one, stand=stand(numbers=(0, 0, 0))), (400,))
        self.assertEqual(stuck_stands(one, most=1000), (stand(numbers=(9, 9, 9)),))


class Papers(unittest.TestCase):
    def paper(self, one, here, **most):
        answer = told(trap_paper, story=one, stand=here, **most)
        self.assertIs(type(answer), tuple)
        self.assertEqual(slowways.trap_word(one, here, answer), ("let", answer[0]))
        self.assertEqual(lets_trap(one, here, answer), answer[0])
        return answer

    def tells(self, one, here, word, many):
        """A paper of this word; of just as many as the least closed set has, refused of one fewer."""
        for most in ({}, {"most": many}):
            self.assertEqual(self.paper(one, here, **most)[0], word)
        for most in range(many):
            self.assertTrue(same(refusal(trap_paper, NoMore, "many", story=one, stand=here, most=most), (most,)))

    def test_traps(self):
        names = RING_STANDS
        self.assertTrue(same(self.paper(RING, names["b"]), ("trap", (names["b"],))))
        self.assertTrue(same(self.paper(RING, names["d"]), ("trap", (names["c"], names["d"]))))
        self.tells(RING, names["b"], "trap", 1)
        self.tells(RING, names["c"], "trap", 2)

    def test_ways(self):
        names = RING_STANDS
        self.assertTrue(same(self.paper(RING, names["f"]), ("way", pairs_of("f.x a.z"))))
        # the whole set has to be small enough, a way or none
        self.tells(RING, names["f"], "way", 6)
        self.tells(FREE, stand(), "way", 4)
        self.tells(FREE, stand(scene="c"), "way", 2)

    def test_one_that_ends(self):
        self.assertTrue(same(self.paper(RING, RING_STANDS["e"], most=1), ("way", ())))
        self.tells(RING, RING_STANDS["e"], "way", 1)

    def test_stands_that_no_row_comes_to(self):
        here = stand(scene="b", stack=("e", "b"))
        self.tells(RING, here, "trap", 1)
        self.tells(way("a =end", "b x>b"), stand(scene="b", stack=("a",)), "trap", 1)

    def test_a_stand_that_is_not_lean(self):
        self.assertTrue(same(self.paper(GROWS, at("b", 5)), ("way", pairs_of("b.y"))))
        self.tells(GROWS, at("b", 5), "way", 2)
        one = (*GROWS[:5], tuple((*row[:4], None) for row in GROWS[5]), GROWS[6])
        self.assertTrue(same(self.paper(one, at("b", 5)), ("trap", (at("b"), at("d")))))
        self.assertEqual(len(self.paper(one, at("a", 3))[1]), len(GROWS_LEAN) - 3)

    def test_a_ring_that_a_test_never_lets_out_of(self):
        one = story(scene("a", choices=(choice("x", ("to", "a")), choice("y", ("to", "b"), test=NEVER))), scene("b", ending="end"))
        self.tells(one, stand(), "trap", 1)


class Many(unittest.TestCase):
    def test_as_slowly(self):
        found = [0, 0, 0]
        for seed in range(70):
            maker = Maker(seed, lively=True)
            one = maker.story()
            heights = slowways.lean_heights(one, 25)
            if heights is None:
                for function in BOTH:
                    self.assertEqual(refusal(function, NoMore, "many", story=one, most=25), (25,))
                continue
            stuck, traps = stuck_stands(one, most=25), trap_stands(one, most=25)
            self.assertTrue(same(stuck, slowways.stuck(one, heights)))
            self.assertTrue(same(traps, slowways.traps(one, heights)))
            for here in heights:
                paper = trap_paper(one, here, most=25)
                self.assertEqual(paper[0], "trap" if here in traps else "way")
                self.assertEqual(lets_trap(one, here, paper), paper[0])
            found = [found[0] + len(stuck), found[1] + len(traps), found[2] + len(heights) - len(traps)]
        self.assertGreater(min(found), 20)

    def test_any_right_stands(self):
        words = []
        for seed in range(70):
            maker = Maker(seed, lively=True)
            one = maker.story()
            here = maker.right_stand(one)
            known = slowways.from_stand(one, here, 25)
            if known is None:
                words.append(refusal(trap_paper, NoMore, "many", story=one, stand=here, most=25))
                continue
            paper = told(trap_paper, story=one, stand=here, most=25)
            self.assertEqual(slowways.trap_word(one, here, paper), ("let", paper[0]))
            self.assertEqual(lets_trap(one, here, paper), paper[0])
            self.assertEqual(paper[0] == "way", any(slowtale.scene_of(one, at[0])[4] for at in known))
            if len(known) > 1:
                self.assertEqual(refusal(trap_paper, NoMore, "many", story=one, stand=here, most=len(known) - 1), (len(known) - 1,))
            words.append(paper[0])
        for word in ("way", "trap", (25,)):
            self.assertGreater(words.count(word), 5, word)

    def test_the_tour(self):
        self.assertEqual(trap_stands(TOUR, most=1000), slowways.traps(TOUR, slowways.lean_heights(TOUR, 1000)))
        self.assertEqual(trap_paper(TOUR, changed(slowtale.first(TOUR), scene="yard"))[0], "way")


if __name__ == "__main__":
    unittest.main()

"""All stands in reach, plain and lean, and lean steps."""

import unittest

from forktales.alikeness import lean_stand
from forktales.allstands import all_stands
from forktales.bounds import MOST
from forktales.classes import lean_stands, lean_step
from forktales.errors import NoChoice, NoMore, TaleError
from tests import slowtale, slowways
from tests.helpers import by_place, refusal, same, told
from tests.pairsamples import walk
from tests.samples import TOUR, TOUR_FIRST, at_with, changed, choice, scene, stand, story
from tests.storymaker import Maker
from tests.waysamples import ENDED, GROWS, GROWS_LEAN, N, ROUND, ROUND_HEIGHTS, at

BOTH = (all_stands, lean_stands)


class InReach(unittest.TestCase):
    def tells(self, function, one, pairs):
        """Whatever most is, from just enough on; and left out."""
        for most in ({}, {"most": MOST}, {"most": len(pairs)}, {"most": len(pairs) + 1}, {"most": 10 ** 59}):
            answer = told(function, story=one, **most)
            self.assertTrue(same(answer, pairs), answer)
        for most in {0, 1, len(pairs) // 2, len(pairs) - 1} - {len(pairs)}:
            self.too_many(function, one, most)

    def too_many(self, function, one, most):
        self.assertTrue(same(refusal(function, NoMore, "many", story=one, most=most), (most,)))


class Heights(InReach):
    def test_one(self):
        for function in BOTH:
            self.tells(function, story(scene("a")), ((stand(), 0),))
            self.tells(function, ENDED, ((stand(), 0),))

    def test_a_longer_row_is_come_to_first(self):
        for function in BOTH:
            self.tells(function, ROUND, ROUND_HEIGHTS)
        long_ahead = walk("ax>b", "bx>c", "cx>d", "ay>c", "az>d")
        for function in BOTH:
            self.tells(function, long_ahead, tuple((stand(scene=name), height) for name, height in (("a", 0), ("b", 1), ("c", 1), ("d", 1))))

    def test_what_is_not_live(self):
        plain = tuple((at("a", n), n) for n in range(4)) + tuple((at("b", n), n + 1) for n in range(4)) + ((at("b", 9), 2), (at("d", 7), 2))
        self.tells(all_stands, GROWS, tuple(sorted(plain)))
        self.tells(lean_stands, GROWS, tuple(zip(GROWS_LEAN, (0, 1, 2, 3, 1, 2))))

    def test_the_least_height_of_those_that_are_made_lean_alike(self):
        # in b the number is asked for no more: by y at once, by x behind a longer row
        one = walk(("ax>c", {"deeds": (("set", "n", ("num", 1)),)}), "ay>b", "cx>b", numbers=N)
        self.tells(all_stands, one, ((at("a"), 0), (at("b"), 1), (at("b", 1), 2), (at("c", 1), 1)))
        self.tells(lean_stands, one, ((at("a"), 0), (at("b"), 1), (at("c"), 1)))

    def test_stacks_and_onces(self):
        one = story(scene("a", choices=(choice("x", ("into", "a", "a")), choice("y", ("back",)), choice("z", ("to", "a"), once=True))))
        pairs = [(stand(stack=("a",) * k, made=made), k + len(made)) for k in range(4) for made in ((), (("a", "z"),))]
        for function in BOTH:
            self.tells(function, one, tuple(sorted(pairs)))

    def test_the_first_made_lean(self):
        self.tells(lean_stands, walk(numbers=(("n", 2, 9, 5),)), ((stand(numbers=(5,)), 0),))

    def test_figures_seen_and_digits(self):
        for function in BOTH:
            answer = told(function, story=TOUR, most=1000)
            plain = slowways.plain_heights(TOUR, 1000)
            heights = plain if function is all_stands else slowways.made_lean(TOUR, plain)
            self.assertTrue(same(answer, tuple(sorted(heights.items()))))
            self.assertIn((TOUR_FIRST, 0), answer)


class TooMany(InReach):
    def test_the_very_most(self):
        for most in (0, int("1" + "0" * 2) - 98):
            for function in BOTH:
                with self.assertRaises(NoMore) as caught:
                    function(ROUND, most=most)
                self.assertIs(caught.exception.many, most)
                self.assertIsInstance(caught.exception, TaleError)

    def test_left_out(self):
        self.assertEqual(MOST, 400)
        steps = tuple((f"a{name}>a", {"deeds": (("set", name, ("plus", ("of", name), ("num", 1))),)}) for name in "klm")
        just = walk(*steps, ("ax>a", {"label": tuple(("worth", ("of", name)) for name in "klm")}), numbers=(("k", 0, 9, 0), ("l", 0, 9, 0), ("m", 0, 3, 0)))
        more = walk(*steps, numbers=(("k", 0, 9, 0), ("l", 0, 9, 0), ("m", 0, 4, 0)))
        for function in BOTH:
            self.assertEqual(len(told(function, story=just)), 400)
            self.assertEqual(refusal(function, NoMore, "many", story=more), (400,))
            self.assertEqual(len(told(function, story=more, most=500)), 500)

    def test_lean_ones_are_fewer(self):
        self.assertEqual(len(lean_stands(GROWS, most=6)), 6)
        self.too_many(all_stands, GROWS, 6)


class Steps(unittest.TestCase):
    def test_told(self):
        self.assertTrue(same(told(lean_step, story=GROWS, stand=at("a", 2), choice=("a", "y")), at("b")))
        self.assertTrue(same(told(lean_step, story=GROWS, stand=at("a", 2), choice=("a", "x"), lifted=()), at("a", 3)))
        self.assertTrue(same(told(lean_step, story=GROWS, stand=at("a", 3), choice=("a", "x"), lifted=(("a", "x"),)), at("a", 4)))
        # of a stand that isn't lean, too
        self.assertTrue(same(told(lean_step, story=GROWS, stand=at("b", 9), choice=("b", "x")), at("b")))

    def test_refused(self):
        for one, here, pair, why, lifted in (
            (GROWS, at("a", 3), ("a", "x"), "test", ()), (GROWS, at("a", 3), ("a", "z"), "there", ()), (GROWS, at("d"), ("d", "x"), "ended", ()),
            (GROWS, at("a", 9), ("a", "x"), ("deed", 0), (("a", "x"),)), (GROWS, at("a"), ("nowhere", "x"), "there", (("nowhere", "x"),)),
            (TOUR, changed(TOUR_FIRST, scene="vault"), ("vault", "out"), "stack", ()),
            (TOUR, changed(TOUR_FIRST, made=(("hall", "pay"),)), ("hall", "pay"), "once", ()),
            (TOUR, changed(TOUR_FIRST, wheres=at_with("=bob lake lake")), ("hall", "pay"), ("deed", 1), ()),
        ):
            found = refusal(lean_step, NoChoice, "choice", "why", story=one, stand=here, choice=pair, lifted=lifted)
            self.assertTrue(same(found, (pair, why)), found)

    def test_the_very_choice(self):
        pair = tuple(["a", "".join(["no", "ne"])])
        with self.assertRaises(NoChoice) as caught:
            lean_step(GROWS, at("a"), pair)
        self.assertIs(caught.exception.choice, pair)


class Many(InReach):
    def test_as_slowly(self):
        sizes = []
        for seed in range(70):
            maker = Maker(seed, lively=True)
            one = maker.story()
            plain, lean = slowways.plain_heights(one, 40), slowways.lean_heights(one, 40)
            for function, heights in ((all_stands, plain), (lean_stands, lean)):
                if heights is None:
                    self.too_many(function, one, 40)
                    continue
                self.assertTrue(same(by_place(function, {"story": one, "most": 40}), tuple(sorted(heights.items()))))
                self.too_many(function, one, len(heights) - 1)
                self.assertEqual(len(function(one, most=len(heights))), len(heights))
                sizes.append(len(heights))
            if plain is not None:
                # lean ones are the plain ones made lean, by their least heights
                self.assertTrue(same(lean_stands(one, most=40), tuple(sorted(slowways.made_lean(one, plain).items()))))
                self.same_endings(one)
        self.assertGreater(len([size for size in sizes if size > 5]), 20)

    def same_endings(self, one):
        """Plain and lean ways come to the same endings, as soon."""
        soonest = []
        for function in BOTH:
            found = {}
            for here, height in function(one):
                name = slowways.ending(one, here)
                found[name] = min(height, found.get(name, height))
            soonest.append(found)
        self.assertEqual(*soonest)

    def test_steps(self):
        for seed in range(40):
            maker = Maker(seed, lively=True)
            one = maker.story()
            here, lifted = maker.right_stand(one), maker.lifted(one)
            for pair in slowtale.choices_there(one, here[0]):
                word, thing = slowtale.make(one, here, pair, lifted)
                named = {"story": one, "stand": here, "choice": pair, "lifted": lifted}
                if word == "barred":
                    self.assertTrue(same(refusal(lean_step, NoChoice, "choice", "why", **named), (pair, thing)))
                else:
                    self.assertTrue(same(told(lean_step, **named), lean_stand(one, thing)))
                    # a lean stand comes to the same
                    self.assertTrue(same(lean_step(one, lean_stand(one, here), pair, lifted=lifted), lean_stand(one, thing)))


if __name__ == "__main__":
    unittest.main()

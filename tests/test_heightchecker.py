"""Any thing looked at as a height paper."""

import unittest

from forktales.errors import LackError, NoEnding
from forktales.heightchecker import lets_height
from forktales.heights import endings_of, height_paper
from tests import slowways
from tests.helpers import STRANGE, bent, deep, refusal, same, verdict
from tests.pairsamples import walk
from tests.samples import choice, scene, stand, story
from tests.storymaker import Maker
from tests.waysamples import ENDED, GROWS, GROWS_LEAN, ROUND, ROUND_HEIGHTS, ROUND_STANDS, TWO_ENDS, at, pairs_of

ROW = pairs_of("a.y c.x")
HEIGHTS = ROUND_HEIGHTS[:3]
NEVER_STANDS = tuple(stand(scene=name) for name in "abcd")

# A straight way from a to f, so that heights may be of many sizes.
LONG = story(*(scene(name, choices=(choice("x", ("to", behind)),)) for name, behind in zip("abcde", "bcdef")), scene("f", ending="end"))
LONG_ROW = tuple((name, "x") for name in "abcde")
LONG_STANDS = tuple(stand(scene=name) for name in "abcdef")


class Checked(unittest.TestCase):
    def told(self, thing, answer, one=ROUND, ending="end"):
        found = verdict(lets_height, story=one, ending=ending, thing=thing)
        self.assertTrue(same(found, answer), (found, thing))
        self.assertTrue(same(slowways.height_word(one, ending, thing), answer))

    def let(self, thing, many, **named):
        self.told(thing, ("let", many), **named)

    def refused(self, thing, word, place, **named):
        self.told(thing, ("refused", word, place), **named)

    def heights(self, pairs, word, place, row=ROW, **named):
        self.refused(("reached", row, pairs), word, place, **named)


class Let(Checked):
    def test_reached(self):
        self.let(("reached", ROW, HEIGHTS), 2)
        self.let(("reached", ROW, ROUND_HEIGHTS), 2)
        self.let(("reached", (), ((stand(), 0),)), 0, one=ENDED)
        self.let(("reached", pairs_of("a.y b.y"), tuple(zip(GROWS_LEAN[:2] + GROWS_LEAN[4:], (0, 1, 1, 2)))), 2, one=GROWS)

    def test_a_row_that_is_not_the_least(self):
        """What is let by is so: no row of fewer choices; so a longer one is not let by."""
        longer = pairs_of("a.x b.x c.x")
        for pairs in (HEIGHTS, ROUND_HEIGHTS):
            found = verdict(lets_height, story=ROUND, ending="end", thing=("reached", longer, pairs))
            self.assertEqual(found[0], "refused")
        self.heights(ROUND_HEIGHTS, "sooner", 3, row=longer)
        self.heights(HEIGHTS, "step", (2, 0), row=longer)

    def test_a_height_at_n_and_beyond_need_not_be_closed(self):
        self.let(("reached", LONG_ROW, tuple(zip(LONG_STANDS, range(5)))), 5, one=LONG)
        self.let(("reached", LONG_ROW, tuple(zip(LONG_STANDS, range(6)))), 5, one=LONG)
        self.let(("reached", LONG_ROW, (*zip(LONG_STANDS, range(5)), (stand(scene="f"), 10 ** 59))), 5, one=LONG)
        more = (*zip(LONG_STANDS[:5], range(5)), (stand(scene="e", stack=("a",)), 5))
        self.let(("reached", LONG_ROW, more), 5, one=LONG)
        # 4 + 1 isn't below 5, 3 + 1 is
        self.let(("reached", LONG_ROW, (*more[:5], (more[5][0], 4))), 5, one=LONG)
        self.heights((*more[:5], (more[5][0], 3)), "step", (5, 0), row=LONG_ROW, one=LONG)

    def test_heights_that_are_too_low(self):
        # lower ones are right as long as each step leads to no more than 1 above
        self.heights(tuple(zip(LONG_STANDS, (0, 1, 2, 2, 3))), "step", (4, 0), row=LONG_ROW, one=LONG)
        self.heights(tuple(zip(LONG_STANDS, (0, 0, 1, 2, 3, 4))), "sooner", 5, row=LONG_ROW, one=LONG)
        self.let(("reached", LONG_ROW, (*zip(LONG_STANDS[:5], range(5)), (stand(scene="f", stack=("a",)), 5))), 5, one=LONG)

    def test_heights_that_are_too_high(self):
        self.heights(tuple(zip(LONG_STANDS, (0, 2, 3, 4, 5))), "step", (0, 0), row=LONG_ROW, one=LONG)
        self.heights(tuple(zip(LONG_STANDS, (0, 1, 2, 4, 5))), "step", (2, 0), row=LONG_ROW, one=LONG)
        self.heights(((ROUND_STANDS[0], 0), (ROUND_STANDS[1], 1), (ROUND_STANDS[2], 2)), "step", (0, 1))
        self.heights(((ROUND_STANDS[0], 1), *HEIGHTS[1:]), "first", -1)

    def test_never(self):
        never = ("never", NEVER_STANDS)
        self.let(never, None, one=TWO_ENDS, ending="bad")
        self.let(("never", (stand(),)), None, one=ENDED, ending="other")
        unreached = walk("ax>b", "bx>a", "cx>d", ending="end")
        self.let(("never", NEVER_STANDS[:2]), None, one=unreached)
        self.refused(("never", NEVER_STANDS), "sooner", 3, one=unreached)


class Refused(Checked):
    def test_no_ending(self):
        for ending in ("ends", "d", "a"):
            for thing in (("reached", ROW, HEIGHTS), None, ("never", ())):
                self.assertTrue(same(refusal(lets_height, NoEnding, "name", story=ROUND, ending=ending, thing=thing), (ending,)))
        name = "".join(["en", "de"])
        with self.assertRaises(NoEnding) as caught:
            lets_height(ROUND, name, ("never", ()))
        self.assertIs(caught.exception.name, name)
        self.assertIsInstance(caught.exception, LackError)

    def test_shape(self):
        for thing in (*STRANGE, deep((), 30), ("never",), ("never", ROUND_STANDS, ()), ("never", list(ROUND_STANDS)), ("never", None), ["never", ()],
                      ("never", "abc"), ("Never", ()), (None, ()), ((), "never"), ("reached", ROW), ("reached", ROW, HEIGHTS, ()), ("reached", HEIGHTS, ROW),
                      ["reached", ROW, HEIGHTS], ("reached", list(ROW), HEIGHTS), ("reached", ROW, list(HEIGHTS)), ("never", ROW, HEIGHTS), ("reached", ())):
            self.refused(thing, "shape", -1)

    def test_shape_of_the_row_and_the_pairs(self):
        for bad in ((), ("a",), ("a", "y", "z"), ["a", "y"], "ay", ("a", 0), ("a", "Y"), None):
            self.refused(("reached", (bad,), HEIGHTS), "shape", -1)
            self.refused(("reached", (*ROW, bad), HEIGHTS), "shape", -1)
        first = ROUND_STANDS[0]
        for bad in ((), (first,), (first, 0, 0), [first, 0], (first, False), (first, True), (first, -1), (first, None), (first, "0"), (0, first), first, None):
            self.refused(("reached", ROW, (bad,)), "shape", -1)
            # ahead of all other words
            self.refused(("reached", pairs_of("z.z"), ((None, 0), bad)), "shape", -1)

    def test_row(self):
        for words, k in (("a.z", 0), ("a.y c.z", 1), ("a.y a.y", 1), ("a.y c.x d.x", 2), ("z.z", 0), ("a.x b.x c.x c.x c.x", 3)):
            self.heights(HEIGHTS, "row", k, row=pairs_of(words))
            self.heights(((None, 0),), "row", k, row=pairs_of(words))
        self.heights(((at("a"), 0),), "row", 3, row=pairs_of("a.x a.x a.x a.x a.y b.y"), one=GROWS)

    def test_end(self):
        for words in ("", "a.x", "a.x b.x", "a.y c.y"):
            self.heights(HEIGHTS, "end", -1, row=pairs_of(words))
            self.heights(((None, 0),), "end", -1, row=pairs_of(words))
        self.heights(((stand(), 0),), "end", -1, row=pairs_of("a.y c.x"), one=TWO_ENDS, ending="bad")

    def test_stand_lean_rise(self):
        self.heights((*HEIGHTS[:2], (None, 7)), "stand", 2)
        self.heights(((stand(scene="z"), 0), *HEIGHTS), "stand", 0)
        self.heights(((stand(digit=False), 0), *HEIGHTS), "stand", 0)
        pairs = ((at("a"), 0), (at("b", 3), 1), (None, 0))
        self.heights(pairs, "lean", 1, row=pairs_of("a.y b.y"), one=GROWS)
        self.heights((*HEIGHTS[:2], (ROUND_STANDS[1], 2)), "rise", 2)
        self.heights((*HEIGHTS[:2], (ROUND_STANDS[1], 0)), "rise", 2)
        self.heights(HEIGHTS[::-1], "rise", 1)

    def test_first(self):
        self.heights((), "first", -1)
        self.heights(HEIGHTS[1:], "first", -1)
        for height in (1, 2, 10 ** 59):
            self.heights(((stand(), height), *HEIGHTS[1:]), "first", -1)

    def test_sooner(self):
        for height in (0, 1):
            self.heights((*HEIGHTS, (ROUND_STANDS[3], height)), "sooner", 3)
        self.let(("reached", ROW, (*HEIGHTS, (ROUND_STANDS[3], 2))), 2)
        # both of one ahead of the next one
        far = ((stand(), 0), (stand(scene="d"), 0))
        self.heights(far, "step", (0, 0))
        self.heights(((stand(), 0), *zip(ROUND_STANDS[1:], (1, 1, 1)), (stand(scene="d", stack=("a",)), 0)), "sooner", 3)

    def test_step(self):
        self.heights(HEIGHTS[:1], "step", (0, 0))
        self.heights(HEIGHTS[:2], "step", (0, 1))
        self.heights(HEIGHTS[:1] + HEIGHTS[2:], "step", (0, 0))
        # by the number of the offer: at 3 x isn't offered
        three = ((at("a", 0), 0), (at("a", 1), 0), (at("a", 2), 0), (at("a", 3), 0), (at("b"), 2))
        self.heights(three, "step", (0, 1), row=pairs_of("a.y b.y"), one=GROWS)
        row = pairs_of("a.x a.y b.y")
        self.heights(((at("a", 0), 0), (at("a", 1), 1), (at("a", 2), 2), (at("a", 3), 1), (at("b"), 1)), "step", (4, 1), row=row, one=GROWS)

    def test_never(self):
        stands = NEVER_STANDS
        for things, word, place in (
            ((None,), "stand", 0), ((*stands, stand()), "rise", 4), (stands[1:], "first", -1), ((), "first", -1), (stands[:1], "step", (0, 0)),
            (stands[:2], "step", (0, 1)), (stands[:3], "step", (2, 0)), ((*stands[:3], stand(scene="d", digit=1)), "stand", 3),
        ):
            self.refused(("never", things), word, place, one=TWO_ENDS, ending="bad")
        self.refused(("never", stands), "sooner", 3, one=TWO_ENDS, ending="good")
        self.refused(("never", stands), "sooner", 3)
        self.refused(("never", (stand(),)), "sooner", 0, one=ENDED)
        # behind the steps of all
        self.refused(("never", (stand(), stand(scene="d"))), "step", (0, 0))
        self.refused(("never", (at("a"), at("b", 1))), "lean", 1, one=GROWS)


class Bent(unittest.TestCase):
    def test_each_place(self):
        for one, ending in ((ROUND, "end"), (TWO_ENDS, "bad"), (ENDED, "end")):
            for thing in bent(height_paper(one, ending)):
                found = verdict(lets_height, story=one, ending=ending, thing=thing)
                self.assertTrue(same(found, slowways.height_word(one, ending, thing)), (found, thing))

    def test_many(self):
        words = []
        for seed in range(100):
            maker = Maker(seed, lively=True)
            one = maker.story()
            if slowways.lean_heights(one, 15) is None:
                continue
            papers = [height_paper(one, ending) for ending in endings_of(one)] + [("never", tuple(sorted(slowways.lean_heights(one, 15))))]
            for ending in endings_of(one):
                for paper in papers:
                    for thing in (paper, *self.turned(maker, paper)):
                        found = verdict(lets_height, story=one, ending=ending, thing=thing)
                        self.assertTrue(same(found, slowways.height_word(one, ending, thing)), (found, thing))
                        words.append(found[1] if found[0] == "refused" else "let")
        for word in ("let", "row", "end", "stand", "first", "sooner", "step"):
            self.assertGreater(words.count(word), 3, word)

    def turned(self, maker, paper):
        """The paper with some of its stands out, others in, heights otherwise."""
        if paper[0] == "never":
            yield ("never", maker.some(paper[1], len(paper[1])))
            return
        _, row, pairs = paper
        yield ("reached", row, maker.some(pairs, len(pairs)))
        yield ("reached", row, tuple((here, maker.one((height, height, height + 1, 0))) for here, height in pairs))
        yield ("reached", row[:-1], pairs)
        yield ("reached", row, (*pairs, (maker.stand(), 1)))
        yield ("reached", (*row, ("hall", "open")), pairs)


if __name__ == "__main__":
    unittest.main()

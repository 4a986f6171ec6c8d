"""Lock papers."""

import unittest

from forktales.bounds import PAIRS
from forktales.errors import LackError, NoEnding, NoMore
from forktales.heights import endings_of
from forktales.lockchecker import lets_lock
from forktales.locks import lock_paper
from forktales.treeruns import run
from tests import slowways
from tests.helpers import by_place, refusal, same, told
from tests.locksamples import AROUND, BARRED, KEY, ONE_SHUT, OPEN, TWO_SHUT, TWO_WAYS, UNREACHED, shut, way
from tests.samples import stand
from tests.storymaker import Maker
from tests.waysamples import ENDED, TWO_ENDS, pairs_of


class Locked(unittest.TestCase):
    def paper(self, one, ending, **most):
        answer = told(lock_paper, story=one, ending=ending, **most)
        many = None if answer[0] == "none" else len(answer[1])
        self.assertEqual(slowways.lock_word(one, ending, answer), ("let", many))
        self.assertEqual(lets_lock(one, ending, answer), many)
        return answer

    def lock(self, one, *locks, ending="end"):
        """One of these locks, with a row and a bar."""
        word, lifted, row, bar = self.paper(one, ending)
        self.assertEqual(word, "lock")
        self.assertIn(lifted, [pairs_of(words) for words in locks])
        self.assertEqual(slowways.ending(one, run(one, row, lifted=lifted)[-1]), ending)
        self.bounds(one, ending, len(slowways.least_bar(one, len(lifted))))

    def none(self, one, ending="end"):
        self.assertEqual(self.paper(one, ending)[0], "none")
        self.bounds(one, ending, len(slowways.least_bar(one, None)))

    def bounds(self, one, ending, least):
        """Told of just as many pairs as the least bar has, refused of one fewer."""
        self.paper(one, ending, most=least)
        for most in {0, 1, least - 1} - {-1}:
            if most < least:
                self.assertTrue(same(refusal(lock_paper, NoMore, "many", story=one, ending=ending, most=most), (most,)))


class Locks(Locked):
    def test_no_lock_is_needed(self):
        self.lock(OPEN, "")
        self.assertTrue(same(lock_paper(OPEN, "end", most=0), ("lock", (), (("a", "x"), ("b", "x")), ())))
        self.lock(ENDED, "")
        self.assertTrue(same(lock_paper(ENDED, "end"), ("lock", (), (), ())))

    def test_one(self):
        self.lock(ONE_SHUT, "a.y", "b.z")
        self.lock(KEY, "a.take", "a.use")

    def test_two(self):
        self.lock(TWO_SHUT, "a.x b.x")
        self.lock(TWO_WAYS, "a.x b.x", "a.y c.x")

    def test_a_chain_with_a_way_around(self):
        self.lock(AROUND, "a.z c.x")
        self.lock(way("a !x>b", "b !x>c", "c !x>d", "d !x>e", "e =end"), "a.x b.x c.x d.x")

    def test_none(self):
        self.none(UNREACHED)
        self.none(BARRED)
        self.none(ENDED, "other")
        self.lock(TWO_ENDS, "a.z", ending="bad")

    def test_the_bar(self):
        self.assertTrue(same(lock_paper(ONE_SHUT, "end")[3], (((), stand()), ((), stand(scene="b")))))
        laid = pairs_of("a.x")
        self.assertTrue(same(lock_paper(TWO_SHUT, "end")[3], (((), stand()), (laid, stand()), (laid, stand(scene="b")))[:1] + ((laid, stand(scene="b")),)))
        paper = lock_paper(UNREACHED, "end")
        self.assertTrue(same(paper, ("none", (((), stand()), (laid, stand()), (laid, stand(scene="b"))))))

    def test_a_bar_that_cannot_be_come_through(self):
        """With all lifted a deed, the stack, a choice made once still bar."""
        laid = {pair[0] for pair in lock_paper(BARRED, "end")[1]}
        self.assertNotIn(("a", "deed"), {choice for some in laid for choice in some})
        self.assertIn((("a", "into"), ("a", "once"), ("a", "stack")), laid)


class Refused(Locked):
    def test_no_ending(self):
        for one, ending in ((OPEN, "ends"), (OPEN, "c"), (UNREACHED, "b")):
            # ahead of NoMore
            for most in ({}, {"most": 0}):
                self.assertTrue(same(refusal(lock_paper, NoEnding, "name", story=one, ending=ending, **most), (ending,)))
        name = "".join(["no", "ne"])
        with self.assertRaises(NoEnding) as caught:
            lock_paper(OPEN, name)
        self.assertIs(caught.exception.name, name)
        self.assertIsInstance(caught.exception, LackError)

    def test_what_is_gone_through_beyond_the_bar_does_not_count(self):
        # with one laid there are ten stands and more, with none laid one
        far = way("a !x>b !z>a", *(f"{one} x>{other}" for one, other in zip("bcdefg", "cdefgh")), "h =end")
        self.lock(far, "a.x")
        self.assertEqual(len(lock_paper(far, "end", most=1)[3]), 1)

    def test_none_counts_all(self):
        self.assertEqual(len(lock_paper(UNREACHED, "end", most=3)[1]), 3)
        for most in (0, 1, 2):
            self.assertEqual(refusal(lock_paper, NoMore, "many", story=UNREACHED, ending="end", most=most), (most,))

    def test_left_out(self):
        self.assertEqual(PAIRS, 4000)
        # eight shut choices lead back to a: as many stands as there are sets of them, each by no, one, .. or all of them
        wide = way("a " + " ".join(f"!{name}>a" for name in "pqrstuvw"), "b =end")
        self.assertEqual(len(lock_paper(wide, "end")[1]), 256)
        ones = {"numbers": tuple((name, 0, 1, 0) for name in "klmn")}
        numbered = way("a " + " ".join(f"!{name}>a" for name in "pqrstuvw"), "b =end", **ones)
        sets = tuple((f"s{name}", (), ("all", ()), False, (("set", name, ("num", 1)),), ("to", "a")) for name in "klmn")
        reads = ("rr", tuple(("worth", ("of", name)) for name in "klmn"), ("all", ()), False, (), ("to", "a"))
        name, pieces, own, woven, ending = numbered[5][0]
        numbered = (*numbered[:5], ((name, pieces, own + sets + (reads,), woven, ending), *numbered[5][1:]), numbered[6])
        self.assertEqual(refusal(lock_paper, NoMore, "many", story=numbered, ending="end"), (4000,))
        self.assertEqual(len(lock_paper(numbered, "end", most=4096)[1]), 4096)


class Many(Locked):
    def test_as_slowly(self):
        found = []
        for seed in range(160):
            maker = Maker(seed, lively=True)
            one = shut(maker, maker.story())
            for ending in endings_of(one):
                try:
                    paper = by_place(lock_paper, {"story": one, "ending": ending, "most": 60})
                except NoMore:
                    continue
                if len(slowways.all_choices(one)) > 12:
                    continue
                many = None if paper[0] == "none" else len(paper[1])
                self.assertEqual(slowways.lock_size(one, ending), many)
                self.assertEqual(slowways.lock_word(one, ending, paper), ("let", many))
                self.assertEqual(lets_lock(one, ending, paper), many)
                least = len(slowways.least_bar(one, many))
                self.assertLessEqual(least, 60)
                if least:
                    self.assertEqual(refusal(lock_paper, NoMore, "many", story=one, ending=ending, most=least - 1), (least - 1,))
                found.append(many)
        for many in (None, 0, 1):
            self.assertGreater(found.count(many), 4, (many, found))
        self.assertGreater(len([many for many in found if many and many > 1]), 4, found)


if __name__ == "__main__":
    unittest.main()

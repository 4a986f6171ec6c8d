"""Any thing looked at as a trap paper."""

import unittest

from forktales.errors import NoMore
from forktales.trapchecker import lets_trap
from forktales.traps import trap_paper
from tests import slowways
from tests.helpers import STRANGE, bent, deep, same, verdict
from tests.locksamples import way
from tests.samples import stand
from tests.storymaker import Maker
from tests.trapsamples import FREE, RING, RING_STANDS
from tests.waysamples import ENDED, GROWS, at, pairs_of

A, B, C, D, E, F = (RING_STANDS[name] for name in "abcdef")
GROWS_ON = (*GROWS[:5], tuple((*row[:4], None) for row in GROWS[5]), GROWS[6])


class Checked(unittest.TestCase):
    def told(self, here, thing, answer, one=RING):
        found = verdict(lets_trap, story=one, stand=here, thing=thing)
        self.assertTrue(same(found, answer), (found, thing))
        self.assertTrue(same(slowways.trap_word(one, here, thing), answer))

    def let(self, here, thing, **named):
        self.told(here, thing, ("let", thing[0]), **named)

    def refused(self, here, thing, word, place, **named):
        self.told(here, thing, ("refused", word, place), **named)

    def trap(self, here, stands, word, place, **named):
        self.refused(here, ("trap", stands), word, place, **named)

    def way(self, here, words, word, place, **named):
        self.refused(here, ("way", pairs_of(words)), word, place, **named)


class Traps(Checked):
    def test_let(self):
        self.let(B, ("trap", (B,)))
        self.let(C, ("trap", (C, D)))
        self.let(D, ("trap", (C, D)))
        self.let(B, ("trap", (B, C, D)))
        self.let(stand(scene="b", stack=("e",)), ("trap", (stand(scene="b", stack=("e",)),)))

    def test_of_the_stand_made_lean(self):
        self.let(at("b", 5), ("trap", (at("b"), at("d"))), one=GROWS_ON)
        self.trap(at("b", 5), (at("b", 5), at("d")), "lean", 0, one=GROWS_ON)
        self.trap(at("b", 5), (at("b"), at("b", 5), at("d")), "lean", 1, one=GROWS_ON)

    def test_stand_and_rise(self):
        for bad in (*STRANGE, deep((), 28), list(B), stand(scene="z"), stand(digit=False)):
            self.trap(B, (bad,), "stand", 0)
            self.trap(B, (B, bad), "stand", 1)
        self.trap(B, (B, B), "rise", 1)
        self.trap(C, (D, C), "rise", 1)

    def test_first(self):
        self.trap(B, (), "first", -1)
        self.trap(B, (C, D), "first", -1)
        self.trap(stand(scene="b", stack=("e",)), (B,), "first", -1)

    def test_step(self):
        self.trap(C, (C,), "step", (0, 0))
        self.trap(A, (A, B, C, D), "step", (0, 2))
        self.trap(A, (A, B, C, D, E), "step", (0, 3))
        # a test that isn't met is no offer
        self.trap(F, (B, F), "step", (1, 0))

    def test_end(self):
        self.trap(A, (A, B, C, D, E, F), "end", 4)
        self.trap(E, (E,), "end", 0)
        self.trap(B, (B, E), "end", 1)
        # behind the steps of all
        self.trap(C, (C, E), "step", (0, 0))
        self.trap(stand(), (stand(),), "end", 0, one=ENDED)


class Ways(Checked):
    def test_let(self):
        self.let(A, ("way", pairs_of("a.z")))
        self.let(F, ("way", pairs_of("f.x a.w f.x a.z")))
        self.let(E, ("way", ()))
        self.let(stand(), ("way", ()), one=ENDED)
        self.let(at("a", 2), ("way", pairs_of("a.x a.y b.y")), one=GROWS)
        self.let(at("b", 7), ("way", pairs_of("b.x b.y")), one=GROWS)

    def test_any_ending(self):
        one = way("a x>b y>c", "b =end", "c =other")
        for words in ("a.x", "a.y"):
            self.let(A, ("way", pairs_of(words)), one=one)

    def test_row(self):
        for here, words, k in ((A, "a.v", 0), (A, "a.w f.y", 1), (A, "a.z e.x", 1), (B, "b.x", 0), (F, "a.z", 0), (E, "e.x", 0)):
            self.way(here, words, "row", k)
        self.way(at("a", 3), "a.x a.y b.y", "row", 0, one=GROWS)

    def test_end(self):
        for here, words in ((A, ""), (B, ""), (A, "a.x"), (C, "c.x d.x"), (A, "a.w f.x")):
            self.way(here, words, "end", -1)
        self.way(stand(), "a.x", "end", -1, one=FREE)


class Shape(Checked):
    def test_strange_things(self):
        for thing in (*STRANGE, deep((), 30), ("trap",), ("way",), ("trap", (B,), ()), ["trap", (B,)], ("trap", [B]), ("way", [("a", "z")]), ("Trap", (B,)),
                      ("ways", ()), (None, ()), ((), ()), ((B,), "trap"), ("trap", None), ("way", None), ("trap", "b"), ("way", "az"), ("stuck", ())):
            self.refused(B, thing, "shape", -1)
            self.refused(E, thing, "shape", -1)

    def test_rows(self):
        for bad in ((), ("a",), ("a", "z", "z"), ["a", "z"], "az", ("a", 0), ("a", "Z"), None, B):
            self.refused(A, ("way", (bad,)), "shape", -1)
            # ahead of all other words
            self.refused(A, ("way", (("q", "q"), bad)), "shape", -1)


class Bent(unittest.TestCase):
    def compare(self, one, here, thing):
        found = verdict(lets_trap, story=one, stand=here, thing=thing)
        self.assertTrue(same(found, slowways.trap_word(one, here, thing)), (found, thing))
        return found[1]

    def test_each_place(self):
        for here in (B, C, A, E):
            for thing in bent(trap_paper(RING, here)):
                self.compare(RING, here, thing)

    def test_many(self):
        words = []
        for seed in range(80):
            maker = Maker(seed, lively=True)
            one = maker.story()
            here, other = maker.right_stand(one), maker.right_stand(one)
            for begin in (here, other):
                try:
                    word, things = trap_paper(one, begin, most=12)
                except NoMore:
                    continue
                for thing in ((word, things), (word, maker.some(things, len(things)) if word == "trap" else things[:-1]), ("trap", things), ("way", things),
                              (word, (*things, maker.stand())), ("way", (*things, ("hall", "open")))):
                    words.append(self.compare(one, here, thing))
                    words.append(self.compare(one, other, thing))
        for word in ("way", "trap", "shape", "stand", "first", "step", "end", "row"):
            self.assertGreater(words.count(word), 2, word)


if __name__ == "__main__":
    unittest.main()

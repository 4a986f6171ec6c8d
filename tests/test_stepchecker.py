"""Any thing looked at as the stand to which a choice leads."""

import unittest

from forktales.stepchecker import lets_made
from tests import slowtale, slowways
from tests.helpers import STRANGE, bent, deep, same, verdict
from tests.samples import TOUR, TOUR_FIRST, at_with, changed
from tests.storymaker import Maker

PAY = ("hall", "pay")
PAID = changed(TOUR_FIRST, scene="yard", numbers=(1, -1), wheres=at_with("inn road road"), made=(PAY,))


class Checked(unittest.TestCase):
    def told(self, thing, answer, stand=TOUR_FIRST, choice=PAY):
        found = verdict(lets_made, story=TOUR, stand=stand, choice=choice, thing=thing)
        self.assertTrue(same(found, answer), (found, thing))
        self.assertTrue(same(slowways.made_word(TOUR, stand, choice, thing), answer))

    def let(self, thing, **named):
        self.told(thing, ("let", True), **named)

    def refused(self, thing, word, at, **named):
        self.told(thing, ("refused", word, at), **named)

    def test_let(self):
        self.let(PAID)
        self.let(changed(TOUR_FIRST, scene="vault", stack=("hall",)), choice=("hall", "enter"))
        self.let(changed(TOUR_FIRST, scene="map", seen=(("map", 1),)), choice=("map", "look"))
        deep_down = changed(TOUR_FIRST, scene="vault", stack=("hall",), digit=2)
        self.let(changed(TOUR_FIRST, numbers=(3, 7), digit=0), stand=deep_down, choice=("vault", "out"))

    def test_shape(self):
        for thing in (*STRANGE, deep((), 30), list(PAID), PAID[:6], (*PAID, 0), (PAID,), changed(PAID, numbers=[1, -1]),
                      changed(PAID, numbers=(True, -1)), changed(PAID, digit=False), changed(PAID, stack=[]), changed(PAID, stack=("hall",) * 4),
                      changed(PAID, wheres=(("at", "inn"), ("by", "road"))), changed(PAID, seen=(("map", False),)),
                      changed(PAID, made=(("hall", "pay", "x"),)), changed(PAID, scene="Yard"), changed(PAID, digit=None)):
            self.refused(thing, "shape", -1)
            # ahead of "barred", whatever the choice
            self.refused(thing, "shape", -1, choice=("hall", "none"))
            self.refused(thing, "shape", -1, stand=PAID)

    def test_barred(self):
        for choice, stand in ((("hall", "none"), TOUR_FIRST), (("nowhere", "pay"), TOUR_FIRST), (PAY, PAID), (PAY, changed(TOUR_FIRST, made=(PAY,))),
                              (PAY, changed(TOUR_FIRST, numbers=(1, 0))), (PAY, changed(TOUR_FIRST, wheres=at_with("=bob lake lake"))),
                              (("vault", "out"), changed(TOUR_FIRST, scene="vault"))):
            # ahead of "part", though no stand of the story
            for thing in (PAID, stand, changed(PAID, scene="nowhere", numbers=(), digit=99)):
                self.refused(thing, "barred", -1, choice=choice, stand=stand)

    def test_each_part(self):
        others = (("scene", "hall"), ("stack", ("hall",)), ("numbers", (1, 0)), ("wheres", at_with("inn road =bob")), ("seen", (("map", 1),)),
                  ("made", ()), ("digit", 1))
        for j, (name, part) in enumerate(others):
            self.refused(changed(PAID, **{name: part}), "part", j)
            # of several the first
            self.refused(changed(PAID, **dict(others[j:])), "part", j)

    def test_parts_that_no_stand_of_the_story_has(self):
        for j, parts in enumerate(({"scene": "zzz"}, {"stack": ("zzz",)}, {"numbers": (1,)}, {"wheres": ()}, {"seen": (("hall", 0),)},
                                   {"made": (PAY, PAY)}, {"digit": -1})):
            self.refused(changed(PAID, **parts), "part", j)


class Bent(unittest.TestCase):
    def test_each_place(self):
        for thing in bent(PAID):
            found = verdict(lets_made, story=TOUR, stand=TOUR_FIRST, choice=PAY, thing=thing)
            self.assertTrue(same(found, slowways.made_word(TOUR, TOUR_FIRST, PAY, thing)), thing)

    def test_many(self):
        words = []
        for seed in range(60):
            maker = Maker(seed, lively=True)
            one = maker.story()
            at = maker.right_stand(one)
            pairs = [*slowtale.choices_there(one, at[0]), ("nowhere", "none")]
            things = [at, maker.right_stand(one), maker.stand()]
            things += [slowtale.make(one, at, pair)[1] for pair in pairs]
            for pair in pairs:
                for thing in things:
                    found = verdict(lets_made, story=one, stand=at, choice=pair, thing=thing)
                    self.assertTrue(same(found, slowways.made_word(one, at, pair, thing)))
                    words.append(found[:2])
        for word in (("let", True), ("refused", "shape"), ("refused", "barred"), ("refused", "part")):
            self.assertGreater(words.count(word), 20, word)


if __name__ == "__main__":
    unittest.main()

"""STANDS made LEAN."""

import unittest

from forktales.alikeness import are_alike, lean_stand
from tests import slowtale
from tests.helpers import same, told
from tests.samples import TOUR, TOUR_FIRST, at_with, changed, choice, largest, scene, stand, story
from tests.storymaker import Maker

# Each scene reads one thing; the first stand is all at first, b's are other ones.
ASKS = {
    "digit": choice("x", deeds=(("draw", "m"),)),
    "figures": choice("x", deeds=(("leave", "ann"),)),
    "made": choice("x", once=True),
    "num": choice("x", test=("is", ("of", "n"), "=", ("num", 0))),
    "seen": choice("x", test=("is", ("seen", "num"), "=", ("num", 0))),
}
ONE = story(
    *[scene(name, choices=(own,)) for name, own in ASKS.items()],
    scene("begin", pieces=(("worth", ("seen", "begin")),)), scene("zero"),
    numbers=(("m", 0, 9, 1), ("n", 0, 9, 2)), places=("inn", "lake"), figures=(("ann", "inn"), ("bob", "lake")), digits=(5, 6), begin="begin",
)
OTHER = stand(numbers=(8, 9), wheres=at_with("=bob inn"), seen=(("begin", 7), ("num", 8)), made=(("made", "x"),), digit=1)


class Lean(unittest.TestCase):
    def lean(self, one, at, after):
        told_stand = told(lean_stand, story=one, stand=at)
        self.assertTrue(same(told_stand, after), told_stand)
        self.assertTrue(same(told(lean_stand, story=one, stand=told_stand), after))

    def of(self, scene_name, stack=(), **parts):
        first = stand(scene=scene_name, stack=stack, numbers=(1, 2), wheres=at_with("inn lake"), seen=(("begin", 1), ("num", 0)))
        self.lean(ONE, changed(OTHER, scene=scene_name, stack=stack), changed(first, **parts))

    def test_each_thing_alone(self):
        self.of("zero")
        self.of("digit", digit=1)
        self.of("figures", wheres=OTHER[3])
        self.of("made", made=OTHER[5])
        self.of("num", numbers=(1, 9))
        self.of("seen", seen=(("begin", 1), ("num", 8)))
        self.of("begin", seen=(("begin", 7), ("num", 0)))

    def test_what_is_live_on_the_stack(self):
        self.of("zero", ("digit", "made"), digit=1, made=OTHER[5])
        self.of("num", ("zero", "zero", "figures"), numbers=(1, 9), wheres=OTHER[3])
        self.of("zero", ("zero",))

    def test_a_scene_of_the_stack_that_ends(self):
        one = story(scene("a"), scene("b", choices=(choice("x", once=True),), ending="end"))
        self.lean(one, stand(stack=("b",), made=(("b", "x"),)), stand(stack=("b",)))

    def test_pairs_of_made(self):
        one = story(scene("a", choices=(choice("x", once=True), choice("y", once=True))), scene("b", choices=(choice("x", once=True),)))
        made = (("a", "x"), ("a", "y"), ("b", "x"))
        self.lean(one, stand(made=made), stand(made=made[:2]))
        self.lean(one, stand(scene="b", made=made), stand(scene="b", made=made[2:]))

    def test_all_wheres_or_none(self):
        one = story(scene("a", pieces=(("place", "ann"),)), scene("b"), places=("inn", "lake"), figures=(("ann", "inn"), ("bob", "inn")))
        self.lean(one, stand(wheres=at_with("lake lake")), stand(wheres=at_with("lake lake")))
        self.lean(one, stand(scene="b", wheres=at_with("lake lake")), stand(scene="b", wheres=at_with("inn inn")))

    def test_the_tour(self):
        at = changed(TOUR_FIRST, numbers=(5, 5), wheres=at_with("=bob inn =bob"), seen=(("map", 4),), made=(("hall", "pay"),), digit=2)
        self.lean(TOUR, at, changed(at, numbers=(5, -1)))
        self.lean(TOUR, changed(at, scene="map"), changed(TOUR_FIRST, scene="map", seen=(("map", 4),)))
        self.lean(TOUR, changed(at, scene="vault"), changed(TOUR_FIRST, scene="vault", digit=2))
        self.lean(TOUR, changed(at, scene="vault", stack=("map",)), changed(TOUR_FIRST, scene="vault", stack=("map",), seen=(("map", 4),), digit=2))
        self.lean(TOUR, changed(at, scene="yard"), changed(TOUR_FIRST, scene="yard"))
        self.lean(TOUR, TOUR_FIRST, TOUR_FIRST)

    def test_the_largest(self):
        maker = Maker("largest")
        one = largest()
        for _ in range(10):
            at = maker.right_stand(one)
            self.lean(one, at, slowtale.lean(one, at))


class Alike(unittest.TestCase):
    def alike(self, one, at, other, truth):
        for first, second in ((at, other), (other, at)):
            answer = told(are_alike, story=one, one=first, other=second)
            self.assertIs(answer, truth)

    def test_those_that_part_in_what_is_live(self):
        for name, part in (("digit", {"digit": 0}), ("figures", {"wheres": at_with("inn inn")}), ("made", {"made": ()}),
                           ("num", {"numbers": (8, 8)}), ("seen", {"seen": (("begin", 7), ("num", 9))})):
            for scene_name in ASKS:
                at = changed(OTHER, scene=scene_name)
                self.alike(ONE, at, changed(at, **part), scene_name != name)

    def test_those_that_part_in_what_is_not_live_alone(self):
        at = changed(OTHER, scene="zero")
        self.alike(ONE, at, changed(at, numbers=(0, 0), wheres=at_with("inn =ann"), seen=(("begin", 0), ("num", 0)), made=(), digit=0), True)
        self.alike(ONE, at, at, True)

    def test_scene_and_stack_always_count(self):
        at = changed(OTHER, scene="zero")
        self.alike(ONE, at, changed(at, scene="begin"), False)
        self.alike(ONE, at, changed(at, stack=("zero",)), False)
        self.alike(ONE, changed(at, stack=("zero", "begin")), changed(at, stack=("begin", "zero")), False)


if __name__ == "__main__":
    unittest.main()

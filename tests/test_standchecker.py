"""Any thing looked at as a STAND."""

import unittest

from forktales.standchecker import is_right_stand, lets_stand
from tests import slowtale
from tests.helpers import STRANGE, bent, deep, paper_fault, told
from tests.samples import TOUR, TOUR_FIRST, at_with, changed, choice, largest, scene, stand, story
from tests.storymaker import Maker

# Each part of it has two things at least, so what is refused at 1 is not what is refused at 0.
FULL = story(
    scene("a", pieces=(("worth", ("seen", "a")), ("worth", ("seen", "c"))),
          choices=(choice("o", once=True), choice("p", once=True), choice("q"))),
    scene("b", choices=(choice("q", once=True), choice("o"))),
    scene("c"),
    numbers=(("m", 0, 9, 3), ("n", -5, -5, -5)), places=("inn", "lake"), figures=(("ann", "inn"), ("bob", "inn"), ("cat", "lake")),
    digits=(4, 4, 4),
)
RIGHT = stand(
    scene="b", stack=("a", "c", "a"), numbers=(9, -5), wheres=at_with("=bob inn =bob"), seen=(("a", 0), ("c", 9)),
    made=(("a", "o"), ("a", "p"), ("b", "q")), digit=2,
)


class Checked(unittest.TestCase):
    def let(self, one, thing):
        self.assertIs(told(lets_stand, story=one, thing=thing), True)
        self.assertIs(told(is_right_stand, story=one, thing=thing), True)

    def refused(self, one, thing, word, at):
        self.assertEqual(paper_fault(lets_stand, story=one, thing=thing), (word, at))
        self.assertIs(told(is_right_stand, story=one, thing=thing), False)

    def wrong(self, word, at, **parts):
        self.refused(FULL, changed(RIGHT, **parts), word, at)

    def right(self, **parts):
        self.let(FULL, changed(RIGHT, **parts))


class Right(Checked):
    def test_right_ones(self):
        self.let(FULL, RIGHT)
        self.let(TOUR, TOUR_FIRST)
        self.let(story(scene("a")), stand())
        self.right(stack=(), made=(), digit=0)

    def test_the_largest(self):
        wheres = at_with("=bob =cat =dan wood")
        self.let(largest(), stand(stack=("h", "h", "h"), numbers=(9, 0, 9, 0), wheres=wheres,
                                  seen=(("a", 9), ("d", 0), ("e", 9), ("f", 0)), made=(("a", "w"), ("a", "z"), ("h", "w")), digit=5))

    def test_a_scene_that_nothing_leads_to(self):
        self.right(scene="c")


class Shape(Checked):
    def test_strange_things(self):
        for thing in (*STRANGE, deep((), 30), [()] * 7, ((),) * 7, (None,) * 7):
            self.refused(FULL, thing, "shape", -1)

    def test_fewer_and_more_things(self):
        for k in range(7):
            self.refused(FULL, RIGHT[:k], "shape", -1)
        for thing in (0, (), None):
            self.refused(FULL, RIGHT + (thing,), "shape", -1)

    def test_lists_for_tuples(self):
        self.refused(FULL, list(RIGHT), "shape", -1)
        for part in ("stack", "numbers", "wheres", "seen", "made"):
            k = ("scene", "stack", "numbers", "wheres", "seen", "made").index(part)
            self.wrong("shape", -1, **{part: list(RIGHT[k])})
            self.wrong("shape", -1, **{part: tuple(list(thing) if isinstance(thing, tuple) else [thing] for thing in RIGHT[k])})

    def test_truths_for_numbers(self):
        for truth in (True, False):
            self.wrong("shape", -1, numbers=(truth, -5))
            self.wrong("shape", -1, seen=(("a", 0), ("c", truth)))
            self.wrong("shape", -1, digit=truth)

    def test_words(self):
        for thing in ("", "Hall", "abcdefghi", "a b", None, 0, ("a",), b"a"):
            self.wrong("shape", -1, scene=thing)
            self.wrong("shape", -1, stack=("a", thing))
            self.wrong("shape", -1, wheres=RIGHT[3][:2] + (("at", thing),))
            self.wrong("shape", -1, seen=(("a", 0), (thing, 0)))
            self.wrong("shape", -1, made=(("a", "o"), ("a", thing)))
            self.wrong("shape", -1, made=(("a", "o"), (thing, "o")))

    def test_the_stack(self):
        self.wrong("shape", -1, stack=("a", "a", "a", "a"))
        self.wrong("shape", -1, stack=("zzz",) * 4)
        self.wrong("shape", -1, stack=None)

    def test_pairs(self):
        for pair in ((), ("at",), ("at", "inn", "inn"), ("on", "inn"), ("At", "inn"), (None, "inn"), "at", ["at", "inn"]):
            self.wrong("shape", -1, wheres=(*RIGHT[3][:2], pair))
        for pair in (("c",), ("c", 9, 9), ("c", "9"), (9, "c"), "c", None):
            self.wrong("shape", -1, seen=(("a", 0), pair))
        for pair in (("a",), ("a", "p", "q"), ("a", 0), "ap", ((), "a")):
            self.wrong("shape", -1, made=(("a", "o"), pair))

    def test_it_goes_ahead_of_all_else(self):
        self.wrong("shape", -1, scene="nowhere", stack=("nowhere",), numbers=(), digit=None)
        self.wrong("shape", -1, scene="nowhere", seen=(("a", 0), ("c", False)))


class Words(Checked):
    def test_scene(self):
        for name in ("d", "aa", "zzzzzzzz"):
            self.wrong("scene", -1, scene=name, stack=("d",))

    def test_stack(self):
        self.wrong("stack", 0, stack=("d", "d"), numbers=())
        self.wrong("stack", 1, stack=("a", "d", "e"))
        self.wrong("stack", 2, stack=("a", "b", "d"))

    def test_how_many_numbers(self):
        for numbers in ((), (3,), (3, -5, 0)):
            self.wrong("numbers", -1, numbers=numbers, wheres=())

    def test_numbers_at_their_bounds(self):
        for amount in (0, 9):
            self.right(numbers=(amount, -5))
        for amount in (-1, 10, 10 ** 59):
            self.wrong("number", 0, numbers=(amount, 0), wheres=())
        for amount in (-6, -4, 5):
            self.wrong("number", 1, numbers=(0, amount))

    def test_how_many_wheres(self):
        for wheres in ((), at_with("inn inn"), at_with("inn inn inn inn")):
            self.wrong("wheres", -1, wheres=wheres, seen=())
        self.wrong("wheres", -1, wheres=at_with("moon =moon"))

    def test_wheres(self):
        for where in ("moon", "=moon", "=inn", "ann"):
            self.wrong("where", 0, wheres=at_with(where + " moon inn"))
            self.wrong("where", 2, wheres=at_with("inn lake " + where))
        for k, wheres in enumerate(("=ann inn inn", "inn =bob inn", "inn inn =cat")):
            self.wrong("where", k, wheres=at_with(wheres))

    def test_where_goes_ahead_of_ring(self):
        self.wrong("where", 2, wheres=at_with("=bob =ann =cat"))
        self.wrong("where", 2, wheres=at_with("=bob =ann moon"))

    def test_rings(self):
        self.wrong("ring", 0, wheres=at_with("=bob =ann inn"), seen=())
        self.wrong("ring", 0, wheres=at_with("=bob =cat =ann"))
        self.wrong("ring", 0, wheres=at_with("=cat lake =ann"))
        self.wrong("ring", 1, wheres=at_with("lake =cat =bob"))

    def test_who_only_leads_into_a_ring(self):
        self.wrong("ring", 1, wheres=at_with("=bob =cat =bob"))
        self.wrong("ring", 0, wheres=at_with("=cat =ann =ann"))

    def test_chains_are_no_rings(self):
        for wheres in ("=bob =cat lake", "=cat inn =bob", "inn =ann =bob", "=bob lake =ann", "lake =cat =ann", "=cat =cat inn"):
            self.right(wheres=at_with(wheres))

    def test_seen(self):
        for seen in ((), (("a", 0),), (("c", 0),), (("c", 0), ("a", 0)), (("a", 0), ("b", 0)), (("a", 0), ("b", 0), ("c", 0)),
                     (("a", 0), ("a", 0), ("c", 0)), (("a", -1), ("d", 0))):
            self.wrong("seen", -1, seen=seen, made=(("c", "o"),))

    def test_counts(self):
        for many in (0, 1, 9):
            self.right(seen=(("a", many), ("c", many)))
        for many in (-1, 10, 11):
            self.wrong("count", 0, seen=(("a", many), ("c", many)), digit=9)
            self.wrong("count", 1, seen=(("a", 9), ("c", many)), made=(("c", "o"),))

    def test_made(self):
        self.wrong("made", 1, made=(("a", "o"), ("a", "o")), digit=9)
        self.wrong("made", 1, made=(("a", "p"), ("a", "o")))
        self.wrong("made", 2, made=(("a", "o"), ("b", "q"), ("a", "p")))
        for pair in (("a", "q"), ("b", "o"), ("c", "o"), ("d", "o"), ("a", "z"), ("o", "a")):
            self.wrong("made", 0, made=(pair,))
        self.wrong("made", 1, made=(("a", "o"), ("a", "q"), ("a", "p")))

    def test_digit(self):
        self.right(digit=0)
        for digit in (-1, 3, 4, 10 ** 59):
            self.wrong("digit", -1, digit=digit)
        self.let(story(scene("a"), digits=(0,)), stand())
        self.refused(story(scene("a"), digits=(0,)), stand(digit=1), "digit", -1)

    def test_digit_where_there_are_none(self):
        self.let(story(scene("a")), stand())
        for digit in (1, -1):
            self.refused(story(scene("a")), stand(digit=digit), "digit", -1)

    def test_where_the_story_has_nothing(self):
        bare = story(scene("a"))
        self.refused(bare, stand(numbers=(0,)), "numbers", -1)
        self.refused(bare, stand(wheres=(("at", "inn"),)), "wheres", -1)
        self.refused(bare, stand(seen=(("a", 1),)), "seen", -1)
        self.refused(bare, stand(made=(("a", "o"),)), "made", 0)


class ThingsBent(Checked):
    def test_each_place(self):
        maker = Maker("stands")
        for one, right in ((FULL, RIGHT), (TOUR, changed(TOUR_FIRST, made=(("hall", "pay"),)))):
            for thing in bent(right):
                fault = slowtale.stand_word(one, thing)
                if fault is None:
                    self.let(one, thing)
                else:
                    self.refused(one, thing, *fault)
        for _ in range(40):
            one = maker.story()
            right = maker.right_stand(one)
            self.let(one, right)
            other = maker.stand()
            for thing in (other, *[right[:k] + other[k:k + 1] + right[k + 1:] for k in range(7)]):
                fault = slowtale.stand_word(one, thing)
                self.assertIs(is_right_stand(one, thing), fault is None)
                if fault is not None:
                    self.refused(one, thing, *fault)


if __name__ == "__main__":
    unittest.main()

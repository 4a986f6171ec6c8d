"""What stays of a row in another story: stands that agree, kept and firm ones."""

import unittest

from forktales.keptruns import do_agree, firm_stands, kept_stands
from forktales.treeruns import run
from tests import slowtale, slowways
from tests.helpers import same, told
from tests.pairsamples import NEVER, walk
from tests.samples import TOUR, TOUR_FIRST, at_with, changed, choice, scene, stand, story
from tests.storymaker import Maker
from tests.waysamples import N, ROUND, pairs_of

SEES = (("worth", ("seen", "a")),)


class Agree(unittest.TestCase):
    def agree(self, one, here, other, there, truth):
        self.assertIs(told(do_agree, one=one, stand=here, other=other, second=there), truth)
        self.assertIs(told(do_agree, one=other, stand=there, other=one, second=here), truth)

    def test_each_part(self):
        self.agree(TOUR, TOUR_FIRST, TOUR, TOUR_FIRST, True)
        for parts in ({"scene": "map"}, {"stack": ("map",)}, {"numbers": (3, 0)}, {"numbers": (0, -1)}, {"wheres": at_with("lake road =bob")},
                      {"wheres": at_with("inn road road")}, {"seen": (("map", 1),)}, {"made": (("hall", "pay"),)}, {"digit": 1}):
            other = changed(TOUR_FIRST, **parts)
            self.agree(TOUR, TOUR_FIRST, TOUR, other, False)
            self.agree(TOUR, other, TOUR, other, True)

    def test_numbers_of_names_that_both_have(self):
        one = story(scene("a"), numbers=(("k", 0, 9, 0), ("m", 0, 9, 0)))
        other = story(scene("a"), numbers=(("l", 0, 9, 0), ("m", -5, 5, 0), ("n", 0, 9, 0)))
        self.agree(one, stand(numbers=(1, 2)), other, stand(numbers=(3, 2, 4)), True)
        self.agree(one, stand(numbers=(1, 2)), other, stand(numbers=(1, 3, 2)), False)
        self.agree(one, stand(numbers=(1, 2)), story(scene("a")), stand(), True)

    def test_wheres_of_figures_that_both_have(self):
        one = story(scene("a"), places=("inn", "road"), figures=(("ann", "inn"), ("bob", "inn")))
        other = story(scene("a"), places=("inn", "road"), figures=(("bob", "inn"), ("cat", "inn")))
        self.agree(one, stand(wheres=at_with("road inn")), other, stand(wheres=at_with("inn road")), True)
        self.agree(one, stand(wheres=at_with("inn road")), other, stand(wheres=at_with("inn inn")), False)
        # by their WHERES, not by their places
        self.agree(one, stand(wheres=at_with("inn =ann")), other, stand(wheres=at_with("inn inn")), False)
        self.agree(one, stand(wheres=at_with("inn =ann")), one, stand(wheres=at_with("inn inn")), False)

    def test_scenes_asked_in_both(self):
        one = story(scene("a", pieces=SEES), scene("b", pieces=(("worth", ("seen", "b")),)))
        other = story(scene("a", pieces=(("worth", ("seen", "b")),)), scene("b", pieces=(("worth", ("seen", "c")),)), scene("c"))
        self.agree(one, stand(seen=(("a", 1), ("b", 2))), other, stand(seen=(("b", 2), ("c", 5))), True)
        self.agree(one, stand(seen=(("a", 1), ("b", 2))), other, stand(seen=(("b", 1), ("c", 5))), False)
        self.agree(one, stand(seen=(("a", 1), ("b", 2))), story(scene("a")), stand(), True)

    def test_choices_that_are_once_in_both(self):
        def with_once(x, y):
            return story(scene("a", choices=(choice("x", once=x), choice("y", once=y))))

        both, first, none = with_once(True, True), with_once(True, False), with_once(False, False)
        x, y = ("a", "x"), ("a", "y")
        self.agree(both, stand(made=(x, y)), first, stand(made=(x,)), True)
        self.agree(both, stand(made=(y,)), first, stand(), True)
        self.agree(both, stand(made=(x,)), first, stand(), False)
        self.agree(both, stand(), first, stand(made=(x,)), False)
        self.agree(both, stand(made=(x, y)), none, stand(), True)
        self.agree(both, stand(made=(x,)), both, stand(made=(y,)), False)
        # a scene's own choice: of another scene it is another one
        moved = story(scene("a", woven=("b",)), scene("b", choices=(choice("x", once=True),)))
        self.agree(both, stand(made=(x,)), moved, stand(made=(("b", "x"),)), True)
        self.agree(both, stand(made=(x,)), story(scene("a", choices=(choice("z", once=True),))), stand(), True)


class Kept(unittest.TestCase):
    def kept(self, one, other, words, many):
        self.assertTrue(same(told(kept_stands, one=one, other=other, row=pairs_of(words)), many))
        self.assertEqual(slowways.kept(one, other, pairs_of(words)), many)

    def test_of_itself(self):
        for words in ("", "a.x", "a.x b.x c.y a.y c.x"):
            self.kept(ROUND, ROUND, words, len(words.split()) + 1)

    def test_first_stands_that_do_not_agree(self):
        self.kept(ROUND, walk("bx>c", begin="b"), "a.x b.x", 0)
        self.kept(ROUND, walk("bx>c", begin="b"), "", 0)
        self.kept(walk("ax>b", numbers=N), walk("ax>b", numbers=(("n", 0, 9, 1),)), "a.x", 0)

    def test_a_row_that_cannot_go_on(self):
        self.kept(ROUND, walk("ax>b", "ay>c", ("bx>c", {"test": NEVER}), "cx>d", "cy>a"), "a.x b.x c.x", 2)
        self.kept(ROUND, walk("ay>c", "cx>d", "cy>a"), "a.x b.x", 1)
        # what is barred at the last one keeps all ahead of it
        self.kept(ROUND, walk("ax>b", "ay>c", "bx>c", "cy>a"), "a.y c.y a.y c.x", 4)
        self.kept(ROUND, walk("ax>b", "ay>c", "bx>c", "cy>a", ending="end"), "a.y c.x", 2)

    def test_stands_that_part(self):
        self.kept(ROUND, walk("ax>b", "ay>c", "bx>d", "cx>d"), "a.x b.x", 2)
        one = walk("ax>a", "ay>b", numbers=N)
        adds = ("ax>a", {"deeds": (("set", "n", ("num", 1)),)})
        self.kept(one, walk(adds, "ay>b", numbers=N), "a.y", 2)
        self.kept(one, walk(adds, "ay>b", numbers=N), "a.x a.y", 1)

    def test_stands_that_part_and_agree_again(self):
        one = walk("ax>a", "ay>b", numbers=N)
        there = walk(("ax>a", {"deeds": (("set", "n", ("num", 1)),)}), ("ay>b", {"deeds": (("set", "n", ("num", 0)),)}), numbers=N)
        self.kept(one, there, "a.x a.y", 1)
        self.kept(one, there, "a.y", 2)

    def test_what_only_one_has_is_not_asked(self):
        self.kept(walk("ax>a", "ay>b"), walk(("ax>a", {"deeds": (("set", "n", ("num", 1)),)}), "ay>b", numbers=N), "a.x a.y", 3)
        self.kept(walk("ax>a", ("ay>b", {"once": True})), walk("ax>a", "ay>b"), "a.x a.y", 3)
        sees = walk("ax>a", ("ay>b", {"label": SEES}))
        self.kept(walk("ax>a", "ay>b"), sees, "a.x a.y", 3)
        self.kept(sees, walk("ax>a", "ay>b"), "a.x a.y", 3)


class Firm(unittest.TestCase):
    def firm(self, one, other, words, many):
        self.assertTrue(same(told(firm_stands, one=one, other=other, row=pairs_of(words)), many))
        self.assertEqual(slowways.firm(one, other, pairs_of(words)), many)

    ROW = "a.x b.x c.y a.y"

    def test_of_itself(self):
        for words in ("", "a.x", self.ROW):
            self.firm(ROUND, ROUND, words, len(words.split()) + 1)

    def test_what_has_to_be_the_same(self):
        parts = {"numbers": N, "places": ("inn", "road"), "doors": (("inn", "road"),), "figures": (("ann", "inn"),), "digits": (1, 2)}
        one = walk("ax>b", **parts)
        self.firm(one, walk("ax>b", **parts), "a.x", 2)
        for name, other in (("numbers", ()), ("numbers", (("n", 0, 8, 0),)), ("numbers", (("n", 0, 9, 1),)), ("numbers", (("m", 0, 9, 0),)),
                            ("places", ("inn", "lake", "road")), ("doors", ()), ("figures", (("ann", "road"),)), ("figures", ()), ("digits", (2, 1)),
                            ("digits", ()), ("begin", "b")):
            self.firm(one, walk("ax>b", **{**parts, name: other}), "a.x", 0)
            self.firm(one, walk("ax>b", **{**parts, name: other}), "", 0)

    def test_unlike_scenes_are_asked(self):
        # d, that is asked anew, is never come to
        asks = lambda name: (("worth", ("seen", name)),)
        self.firm(walk("ax>b"), walk("ax>b", ("dx>a", {"label": asks("a")})), "a.x", 0)
        self.firm(walk("ax>b", ("dx>a", {"label": asks("a")})), walk("ax>b", ("dx>a", {"label": asks("b")})), "a.x", 0)
        self.firm(walk("ax>b", ("dx>a", {"label": asks("a")})), walk("ax>b", ("cx>a", {"label": asks("a")})), "a.x", 2)

    def test_up_to_the_first_that_is_touched(self):
        self.firm(ROUND, walk("ax>b", "ay>c", "bx>c", ("cx>d", {"once": True}), "cy>a", ending="end"), self.ROW, 3)
        self.firm(ROUND, walk("ax>b", "ay>c", ("bx>c", {"label": (("end",),)}), "cx>d", "cy>a", ending="end"), self.ROW, 2)
        self.firm(ROUND, walk("ax>b", ("ay>c", {"test": NEVER}), "bx>c", "cx>d", "cy>a", ending="end"), self.ROW, 1)
        self.firm(ROUND, walk("ax>b", "ay>c", "bx>c", "cx>d", "cy>a", ending="other"), self.ROW, 5)
        self.firm(ROUND, walk("ax>b", "ay>c", "bx>c", "cx>d", "cy>a", ending="other"), "a.x b.x c.x", 4)

    def test_a_scene_that_is_gone_or_new(self):
        one = story(scene("a", choices=(choice("x", ("to", "b")),)), scene("b"))
        self.firm(one, story(scene("a", choices=(choice("x", ("to", "b")),)), scene("b"), scene("c")), "a.x", 2)
        self.firm(one, story(scene("a", choices=(choice("x", ("to", "a")),))), "a.x", 1)

    def test_woven_ones(self):
        def woven(*choices):
            return story(scene("a", choices=(choice("x", ("to", "b")), choice("y", ("to", "a"))), woven=("c",)), scene("b"), scene("c", woven=("d",)),
                         scene("d", choices=choices, woven=("a",)))

        self.firm(woven(), woven(choice("x", ("to", "b"))), "a.x", 1)
        # one that is woven where it is woven; one that isn't
        self.firm(story(scene("a", choices=(choice("x", ("to", "b")),), woven=("c",)), scene("b"), scene("c")),
                  story(scene("a", choices=(choice("x", ("to", "b")),), woven=("c",)), scene("b"), scene("c", pieces=(("end",),))), "a.x", 1)
        self.firm(story(scene("a", choices=(choice("x", ("to", "b")),)), scene("b"), scene("c", woven=("b",))),
                  story(scene("a", choices=(choice("x", ("to", "b")),)), scene("b"), scene("c", woven=("a",))), "a.x", 2)

    def test_woven_in_the_one(self):
        # in the other d is woven in a no more: a is another scene there, so touched
        one = story(scene("a", choices=(choice("x", ("to", "b")),), woven=("c",)), scene("b", choices=(choice("x", ("to", "a")),)), scene("c"))
        other = story(scene("a", choices=(choice("x", ("to", "b")),)), scene("b", choices=(choice("x", ("to", "a")),)), scene("c", pieces=(("end",),)))
        self.firm(one, other, "a.x b.x", 1)
        self.firm(other, one, "a.x b.x", 1)


class Many(unittest.TestCase):
    def test_as_slowly(self):
        firm_ones, kept_ones = [], []
        for seed in range(150):
            maker = Maker(seed, lively=True)
            one = maker.story()
            other = maker.edited(one) if seed % 3 else maker.edited(maker.edited(one))
            row, stands = maker.row(one, 6)
            firm, kept = firm_stands(one, other, row), kept_stands(one, other, row)
            self.assertTrue(same((firm, kept), (slowways.firm(one, other, row), slowways.kept(one, other, row))))
            firm_ones.append(len(stands) - firm)
            kept_ones.append(len(stands) - kept)
            # firm stands are the very same in both, and kept
            if firm:
                self.assertLessEqual(firm, kept)
                self.assertTrue(same(run(other, row[:firm - 1]), stands[:firm]))
            # of a beginning as much is kept, or all
            for k in range(len(row)):
                self.assertEqual(kept_stands(one, other, row[:k]), min(kept, k + 1))
                self.assertEqual(firm_stands(one, other, row[:k]), min(firm, k + 1))
            self.assertEqual((firm_stands(one, one, row), kept_stands(one, one, row)), (len(stands), len(stands)))
        for found in (firm_ones, kept_ones):
            self.assertGreater(found.count(0), 20)
            self.assertGreater(len(found) - found.count(0), 8)

    def test_any_right_stands(self):
        truths = []
        for seed in range(150):
            maker = Maker(seed, lively=True)
            one = maker.story()
            other = maker.edited(maker.edited(one))
            here = maker.right_stand(one)
            for there in (here, maker.right_stand(other), slowtale.first(other)):
                if slowtale.stand_word(other, there) is None:
                    truths.append(do_agree(one, here, other, there))
                    self.assertIs(truths[-1], slowways.agree(one, here, other, there))
                    self.assertIs(do_agree(other, there, one, here), truths[-1])
        self.assertGreater(truths.count(True), 30)
        self.assertGreater(truths.count(False), 30)


if __name__ == "__main__":
    unittest.main()

"""Kinds of CHOICES, SCENES, STORIES, of any thing."""

import unittest

from forktales.scenekinds import is_choice, is_scene, is_story
from tests import plainkinds
from tests.helpers import STRANGE, bent, deep, told
from tests.samples import ALWAYS, BIG, INN, SMALL, VOID, choice, scene, story

KINDS = ((is_choice, plainkinds.some_choice), (is_scene, plainkinds.some_scene), (is_story, plainkinds.some_story))
N = ("num", 1)
ONLY = ("only", "ann", (("text", "x"),))


def inside(*, at, worth, thing):
    return thing[:at] + (worth,) + thing[at + 1:]


class Kinds(unittest.TestCase):
    def test_each_one_is_one(self):
        for thing in INN[5]:
            self.assertIs(told(is_scene, thing=thing), True)
            for part in thing[2]:
                self.assertIs(told(is_choice, thing=part), True)
        for thing in (INN, VOID, SMALL):
            self.assertIs(told(is_story, thing=thing), True)

    def test_what_is_none_at_all(self):
        things = STRANGE + (deep((), 29), deep([], 29), ((),) * 7, ((),) * 6 + ("a",), ((),) * 5, ((),) * 6, (None,) * 7)
        for kind, plain in KINDS:
            for thing in things:
                self.assertIs(told(kind, thing=thing), plain(thing), thing)

    def test_the_bent_ones(self):
        for thing in bent(INN):
            self.assertIs(is_story(thing), plainkinds.some_story(thing), thing)
        for thing in INN[5]:
            for other in bent(thing):
                self.assertIs(is_scene(other), plainkinds.some_scene(other), other)
            for part in thing[2]:
                for other in bent(part):
                    self.assertIs(is_choice(other), plainkinds.some_choice(other), other)

    def test_one_is_not_the_other(self):
        for kind, plain in KINDS:
            for thing in (INN, INN[5], INN[5][1], INN[5][1][2], INN[5][1][2][1], list(INN), [INN]):
                self.assertIs(kind(thing), plain(thing))


class Choices(unittest.TestCase):
    def test_no_only_in_labels(self):
        self.assertIs(is_choice(choice("a", label=(("text", "x"),))), True)
        self.assertIs(is_choice(choice("a", label=(ONLY,))), False)
        self.assertIs(is_choice(choice("a", label=(("text", "x"), ("only", "ann", ())))), False)
        for nested in ((("if", ALWAYS, (ONLY,), ()),), (("if", ALWAYS, (), (ONLY,)),)):
            self.assertIs(is_choice(choice("a", label=nested)), False)
            self.assertIs(is_choice(choice("a", label=(("if", ALWAYS, nested, ()),))), False)
            self.assertIs(is_choice(choice("a", label=(("if", ALWAYS, (), nested),))), False)
        self.assertIs(is_choice(choice("a", label=(("if", ALWAYS, (("end",),), (("glue",),)),))), True)

    def test_each_place(self):
        good = choice("a", ("to", "b"), label=(("end",),), test=("not", ALWAYS), once=True, deeds=(("leave", "f"),))
        self.assertIs(is_choice(good), True)
        wrong = {
            0: (None, "", "Abc", ("a",), True), 1: (None, "text", ("end",), ("end", "glue"), [("end",)], (("end", ""),)),
            2: (None, True, (), N, ("all", []), ("num", 1)), 3: (None, 0, 1, "True", (), (True,)),
            4: (None, ("leave", "f"), [("leave", "f")], (("leave",),), (("to", "b"),)),
            5: (None, "back", (), ("to",), ("into", "b"), ("back", "b"), ["back"], ("leave", "f")),
        }
        for at, worths in wrong.items():
            for worth in worths:
                self.assertIs(is_choice(inside(at=at, worth=worth, thing=good)), False, (at, worth))

    def test_truths_for_once(self):
        self.assertIs(is_choice(choice("a", once=False)), True)
        self.assertIs(is_choice(choice("a", once=0)), False)
        self.assertIs(is_choice(choice("a", once=1)), False)


class Scenes(unittest.TestCase):
    def test_choices_of_unlike_names(self):
        a, b = choice("a"), choice("b")
        self.assertIs(is_scene(scene("s", choices=(b, a))), True)
        self.assertIs(is_scene(scene("s", choices=(a, a))), False)
        self.assertIs(is_scene(scene("s", choices=(a, b, choice("a", ("to", "s"), once=True)))), False)

    def test_woven(self):
        self.assertIs(is_scene(scene("s", woven=("t", "a", "s"))), True)
        self.assertIs(is_scene(scene("s", woven=("s",))), True)
        for woven in (("t", "t"), ("t", "a", "t"), ("t", 1), ("T",), ["t"], "t", (None,), (("t",),)):
            self.assertIs(is_scene(scene("s", woven=woven)), False, woven)

    def test_endings(self):
        for ending, is_one in ((None, True), ("good", True), ("", False), (False, False), (0, False), ((), False), ("ABC", False)):
            self.assertIs(is_scene(scene("s", ending=ending)), is_one, ending)

    def test_only_in_pieces(self):
        self.assertIs(is_scene(scene("s", pieces=(ONLY, ("if", ALWAYS, (ONLY,), (ONLY,))))), True)
        self.assertIs(is_scene(scene("s", choices=(choice("a", label=(ONLY,)),))), False)


class Stories(unittest.TestCase):
    def goes(self, is_one, **parts):
        self.assertIs(told(is_story, thing=story(scene("a"), **parts)), is_one, parts)

    def test_numbers(self):
        for number, is_one in (
            (("a", 0, 0, 0), True), (("a", -3, -1, -2), True), (("a", -BIG, BIG, 0), True), (("a", 1, 2, 1), True),
            (("a", 1, 2, 2), True), (("a", 1, 2, 0), False), (("a", 1, 2, 3), False), (("a", 2, 1, 2), False),
            (("a", 2, 1, 1), False), (("a", False, 1, 0), False), (("a", 0, True, 0), False), (("a", 0, 1, True), False),
            (("a", 0, 1), False), (("a", 0, 1, 0, 0), False), (["a", 0, 1, 0], False), (("A", 0, 1, 0), False),
            (("a", "b", 1, 0), False), ("a", False), (("a", None, None, None), False),
        ):
            self.goes(is_one, numbers=(number,))

    def test_names_rise(self):
        self.goes(True, numbers=(("a", 5, 5, 5), ("b", 0, 0, 0)))
        self.goes(False, numbers=(("b", 0, 0, 0), ("a", 5, 5, 5)))
        self.goes(False, numbers=(("a", 0, 0, 0), ("a", 1, 1, 1)))
        self.goes(True, places=("a", "ab", "b"))
        self.goes(False, places=("b", "a"))
        self.goes(False, places=("a", "a"))
        self.goes(True, figures=(("a", "z"), ("b", "y")))
        self.goes(False, figures=(("b", "y"), ("a", "z")))
        self.goes(False, figures=(("a", "y"), ("a", "z")))
        self.assertIs(is_story(VOID[:5] + ((scene("a"), scene("b")), "a")), True)
        self.assertIs(is_story(VOID[:5] + ((scene("b"), scene("a")), "a")), False)
        self.assertIs(is_story(VOID[:5] + ((scene("a"), scene("a")), "a")), False)
        self.assertIs(is_story(VOID[:5] + ((scene("a"), scene("a", ending="b")), "a")), False)

    def test_one_name_in_several_rows(self):
        self.goes(True, numbers=(("a", 0, 0, 0),), places=("a",), figures=(("a", "a"),))

    def test_places_and_figures(self):
        for places in (("A",), ("",), (1,), (("a",),), ["a"], "a", None):
            self.goes(False, places=places)
        for figures in ((("a",),), (("a", "b", "c"),), (["a", "b"],), (("a", 1),), (("A", "b"),), ("ab",), [("a", "b")]):
            self.goes(False, figures=figures)

    def test_doors(self):
        self.goes(True, doors=(("a", "b"), ("a", "c"), ("b", "c")))
        for doors in (
            (("b", "a"),), (("a", "a"),), (("b", "c"), ("a", "b")), (("a", "c"), ("a", "b")), (("a", "b"), ("a", "b")),
            (("a", "b", "c"),), (("a",),), (["a", "b"],), (("a", "B"),), ((1, 2),), [("a", "b")], ("ab",),
        ):
            self.goes(False, doors=doors)

    def test_digits(self):
        self.goes(True, digits=(0, 9, 5, 0, 0))
        for digits in ((10,), (-1,), (True,), (False,), ("1",), (3, 12), [1], 1, None, ((1,),)):
            self.goes(False, digits=digits)

    def test_begin(self):
        self.goes(True, begin="nowhere")
        for begin in (None, "", "Abc", 1, ("a",), ["a"], True):
            self.goes(False, begin=begin)

    def test_names_that_are_nowhere(self):
        full = choice("c", ("into", "x", "y"), label=(("place", "x"),), test=("at", "x", "x"),
                      deeds=(("set", "x", ("seen", "x")), ("go", "x", "x")))
        one = story(scene("a", pieces=(("worth", ("of", "x")),), choices=(full,), woven=("x", "y")), begin="nowhere",
                    doors=(("p", "q"),), figures=(("f", "off"),))
        self.assertIs(told(is_story, thing=one), True)

    def test_lists_for_tuples(self):
        for at in range(6):
            self.assertIs(is_story(inside(at=at, worth=list(INN[at]), thing=INN)), False, at)
        self.assertIs(is_story(inside(at=5, worth=tuple(list(s) for s in INN[5]), thing=INN)), False)
        self.assertIs(is_story(list(INN)), False)

    def test_a_scene_in_it_that_is_none(self):
        for wrong in (scene("a", woven=("b", "b")), scene("a", ending=0), scene("a", choices=(choice("c"), choice("c"))), None, ()):
            self.assertIs(is_story(VOID[:5] + ((wrong,), "a")), False)
            self.assertIs(is_story(VOID[:5] + ((scene("a"), wrong), "a")), False)

    def test_beyond_bounds(self):
        names = [one + other for one in "abcdefghij" for other in "klmnopqrst"]
        scenes = tuple(scene(name, choices=tuple(choice(other) for other in names[:6])) for name in names)
        numbers = tuple((name, -BIG, BIG, 12) for name in names)
        self.assertIs(is_story((numbers, tuple(names), (), (), (9,) * 99, scenes, "a")), True)


if __name__ == "__main__":
    unittest.main()

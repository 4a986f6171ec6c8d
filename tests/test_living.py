"""THINGS, and what is LIVE of a SCENE."""

import unittest

from forktales.errors import LackError, NoScene
from forktales.living import live_things, things_of
from tests import slowtale
from tests.helpers import refusal, same, told
from tests.samples import ALWAYS, TOUR, choice, largest, scene, story

NUMBERS = (("m", 0, 9, 0), ("n", 0, 9, 0))
FIGURES = {"places": ("inn",), "figures": (("ann", "inn"), ("bob", "inn"))}


class Things(unittest.TestCase):
    def test_none(self):
        self.assertTrue(same(told(things_of, story=story(scene("a", choices=(choice("c"),)), places=("inn",))), ()))

    def test_each_sort_rising(self):
        self.assertTrue(same(told(things_of, story=TOUR), (
            ("digit",), ("figures",), ("made", "hall", "pay"), ("num", "coin"), ("num", "luck"), ("seen", "map"),
        )))

    def test_all_those_that_are_once(self):
        one = story(scene("a", choices=(choice("z", once=True), choice("b", once=True), choice("c"))),
                    scene("b", choices=(choice("a", once=True),), ending="end"))
        self.assertEqual(told(things_of, story=one), (("made", "a", "b"), ("made", "a", "z"), ("made", "b", "a")))

    def test_digits_and_figures(self):
        self.assertEqual(told(things_of, story=story(scene("a"), digits=(0,))), (("digit",),))
        self.assertEqual(told(things_of, story=story(scene("a"), **FIGURES)), (("figures",),))

    def test_the_largest(self):
        self.assertTrue(same(told(things_of, story=largest()), slowtale.things(largest())))


class Live(unittest.TestCase):
    def live(self, one, name="a"):
        things = told(live_things, story=one, scene=name)
        self.assertIs(type(things), tuple)
        return things

    def of_choice(self, *, numbers=NUMBERS, **parts):
        return self.live(story(scene("a", choices=(choice("c", **parts),)), scene("s"), numbers=numbers, **FIGURES))

    def of_pieces(self, *pieces):
        return self.live(story(scene("a", pieces=pieces), scene("s"), numbers=NUMBERS, **FIGURES))

    def test_nothing(self):
        self.assertTrue(same(self.live(story(scene("a"))), ()))
        self.assertEqual(self.of_choice(leads=("into", "s", "s"), label=(("text", "of"), ("end",), ("glue",))), ())

    def test_sums(self):
        amount = ("plus", ("of", "n"), ("minus", ("seen", "s"), ("num", 1)))
        found = (("num", "n"), ("seen", "s"))
        self.assertEqual(self.of_pieces(("worth", amount)), found)
        self.assertEqual(self.of_pieces(("if", ("is", ("num", 0), "=", amount), (), ())), found)
        self.assertEqual(self.of_choice(test=("not", ("any", (("is", amount, "<", ("num", 1)),)))), found)
        self.assertEqual(self.of_choice(label=(("worth", amount),)), found)
        self.assertEqual(self.of_choice(deeds=(("set", "m", amount),)), found)

    def test_a_number_that_is_but_set_or_drawn(self):
        self.assertEqual(self.of_choice(deeds=(("set", "n", ("num", 1)), ("draw", "n"))), ())
        self.assertEqual(self.of_choice(deeds=(("set", "n", ("of", "m")),)), (("num", "m"),))

    def test_within_others(self):
        worth = (("worth", ("of", "n")),)
        for piece in (("if", ALWAYS, worth, ()), ("if", ALWAYS, (), worth), ("only", "of", worth), ("only", "r", (("if", ALWAYS, (), worth),))):
            self.assertEqual(self.of_pieces(piece), (("num", "n"),))
        self.assertEqual(self.of_choice(label=(("if", ALWAYS, (), worth),)), (("num", "n"),))

    def test_words_of_texts_and_names_ask_nothing(self):
        self.assertEqual(self.of_pieces(("text", "of"), ("text", "seen"), ("text", "at"), ("only", "with", ()), ("only", "draw", ())), ())

    def test_figures(self):
        found = (("figures",),)
        self.assertEqual(self.of_pieces(("place", "ann")), found)
        self.assertEqual(self.of_choice(label=(("place", "ann"),)), found)
        for test in (("at", "ann", "inn"), ("with", "ann", "bob"), ("not", ("all", (("with", "bob", "ann"),)))):
            self.assertEqual(self.of_choice(test=test), found)
            self.assertEqual(self.of_pieces(("if", test, (), ())), found)
        for deed in (("go", "ann", "inn"), ("put", "ann", "inn"), ("join", "ann", "bob"), ("leave", "ann")):
            self.assertEqual(self.of_choice(deeds=(deed,)), found)

    def test_digit(self):
        own = choice("c", deeds=(("draw", "n"),))
        self.assertEqual(self.live(story(scene("a", choices=(own,)), numbers=NUMBERS, digits=(1,))), (("digit",),))
        self.assertEqual(self.live(story(scene("a", choices=(own,)), numbers=NUMBERS)), ())
        self.assertEqual(self.live(story(scene("a"), digits=(1,))), ())

    def test_made(self):
        self.assertEqual(self.of_choice(once=True), (("made", "a", "c"),))
        self.assertEqual(self.of_choice(once=False), ())

    def test_a_scene_that_ends_reads_its_pieces_alone(self):
        own = choice("c", ("to", "b"), once=True, label=(("worth", ("of", "m")),), test=("at", "ann", "inn"), deeds=(("draw", "n"),))
        one = story(scene("a", pieces=(("worth", ("of", "n")),), choices=(own,), woven=("b",), ending="end"),
                    scene("b", pieces=(("worth", ("seen", "b")),), choices=(choice("d", once=True),)), numbers=NUMBERS, digits=(1,), **FIGURES)
        self.assertEqual(self.live(one), (("num", "n"),))
        self.assertEqual(self.live(one, "b"), (("made", "b", "d"), ("seen", "b")))

    def test_woven_choices(self):
        one = story(
            scene("a", woven=("b",)),
            scene("b", pieces=(("worth", ("of", "m")),), woven=("c",), ending="end", choices=(choice("x", once=True, test=("is", ("of", "n"), "=", ("num", 0))),)),
            scene("c", pieces=(("worth", ("seen", "c")),), choices=(choice("y", ("to", "d"), deeds=(("leave", "ann"),)),)),
            scene("d", pieces=(("worth", ("seen", "d")),)), numbers=NUMBERS, **FIGURES,
        )
        self.assertEqual(self.live(one), (("figures",), ("made", "b", "x"), ("num", "n"), ("seen", "d")))
        self.assertEqual(self.live(one, "b"), (("num", "m"),))

    def test_into_leads_to_both(self):
        one = story(scene("a", choices=(choice("c", ("into", "b", "d")),)), scene("b", pieces=(("worth", ("of", "m")),)),
                    scene("d", pieces=(("worth", ("of", "n")),)), numbers=NUMBERS)
        self.assertEqual(self.live(one), (("num", "m"), ("num", "n")))
        self.assertEqual(self.live(one, "d"), (("num", "n"),))

    def test_back_leads_to_none(self):
        one = story(scene("a", choices=(choice("c", ("back",)),)), scene("b", pieces=(("worth", ("of", "m")),)), numbers=NUMBERS)
        self.assertEqual(self.live(one), ())

    def test_far_and_round(self):
        one = story(
            scene("a", choices=(choice("c", ("to", "b")),)), scene("b", choices=(choice("c", ("to", "d")),)),
            scene("d", choices=(choice("c", ("to", "b")), choice("e", ("to", "e")))),
            scene("e", pieces=(("worth", ("of", "n")),), choices=(choice("c", ("to", "f")),), ending="end"),
            scene("f", pieces=(("worth", ("of", "m")),)), numbers=NUMBERS,
        )
        for name in "abde":
            self.assertEqual(self.live(one, name), (("num", "n"),))
        self.assertEqual(self.live(one, "f"), (("num", "m"),))

    def test_the_tour(self):
        all_things = (("digit",), ("figures",), ("made", "hall", "pay"), ("num", "coin"), ("seen", "map"))
        self.assertEqual([self.live(TOUR, name) for name in ("hall", "map", "vault", "yard")],
                         [all_things, (("seen", "map"),), (("digit",),), ()])

    def test_the_largest(self):
        for name in "abcdefgh":
            self.assertTrue(same(self.live(largest(), name), slowtale.live(largest(), name)))

    def test_no_such_scene(self):
        for name in ("attic", "hal", "hally", "zzzzzzzz"):
            self.assertEqual(refusal(live_things, NoScene, "name", story=TOUR, scene=name), (name,))
        name = "".join(["at", "tic"])
        with self.assertRaises(LackError) as caught:
            live_things(TOUR, name)
        self.assertIs(caught.exception.name, name)


if __name__ == "__main__":
    unittest.main()

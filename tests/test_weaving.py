"""What is ASKED, and what is WOVEN where."""

import unittest

from forktales.errors import LackError, NoScene
from forktales.weaving import asked_scenes, choices_at, woven_at
from tests.helpers import refusal, same, told
from tests.samples import INN, choice, scene, story

SEEN = ("is", ("seen", "s"), ">", ("num", 0))
PIECE = (("worth", ("seen", "s")),)


class Asked(unittest.TestCase):
    def asked(self, **parts):
        return told(asked_scenes, story=story(scene("a", **parts), scene("s"), scene("t")))

    def test_none(self):
        self.assertTrue(same(self.asked(), ()))
        self.assertEqual(self.asked(choices=(choice("s", ("into", "s", "t")),), woven=("s",), ending="s"), ())

    def test_each_place(self):
        for pieces in (
            PIECE,
            (("worth", ("plus", ("num", 1), ("seen", "s"))),),
            (("worth", ("minus", ("seen", "s"), ("num", 1))),),
            (("if", SEEN, (), ()),),
            (("if", ("all", ()), PIECE, ()),),
            (("if", ("all", ()), (), PIECE),),
            (("only", "r", PIECE),),
            (("only", "r", (("if", ("not", ("all", (("any", (SEEN,)),))), (), ()),)),),
        ):
            self.assertEqual(self.asked(pieces=pieces), ("s",), pieces)
        for part in (
            choice("c", label=PIECE),
            choice("c", label=(("if", ("all", ()), (), PIECE),)),
            choice("c", test=SEEN),
            choice("c", test=("is", ("num", 0), "<", ("seen", "s"))),
            choice("c", test=("any", (("all", ()), ("not", SEEN)))),
            choice("c", deeds=(("set", "n", ("plus", ("seen", "s"), ("num", 1))),)),
            choice("c", deeds=(("leave", "f"), ("set", "n", ("seen", "s")))),
        ):
            self.assertEqual(self.asked(choices=(part,)), ("s",), part)
            self.assertEqual(self.asked(choices=(choice("b"), part), ending="good"), ("s",), part)

    def test_they_rise_and_are_there_once(self):
        one = story(
            scene("a", pieces=(("worth", ("seen", "z")), ("worth", ("seen", "b")))),
            scene("b", pieces=(("worth", ("seen", "z")), ("worth", ("seen", "b")), ("worth", ("seen", "a")))),
            scene("c"), scene("z"),
        )
        self.assertTrue(same(told(asked_scenes, story=one), ("a", "b", "z")))

    def test_names_of_other_sorts_do_not_ask(self):
        one = story(
            scene("a", pieces=(("worth", ("of", "s")), ("place", "s")), choices=(choice("c", test=("at", "s", "s")),)), scene("s"),
            numbers=(("s", 0, 1, 0),), places=("s",), figures=(("s", "s"),),
        )
        self.assertEqual(asked_scenes(one), ())

    def test_the_inn(self):
        self.assertEqual(told(asked_scenes, story=INN), ("hall",))


class Woven(unittest.TestCase):
    EXAMPLE = story(
        scene("a", woven=("b", "c"), choices=(choice("z"), choice("a"))),
        scene("b", woven=("c", "a"), choices=(choice("y"),)),
        scene("c", woven=("d",)),
        scene("d", choices=(choice("z"), choice("b"))),
        scene("e", choices=(choice("q"),)),
    )

    def names(self, one, name):
        woven = told(woven_at, story=one, name=name)
        self.assertIs(type(woven), tuple)
        return " ".join(woven)

    def test_the_example(self):
        for name, woven in (("a", "b c d"), ("b", "c d a"), ("c", "d"), ("d", ""), ("e", "")):
            self.assertEqual(self.names(self.EXAMPLE, name), woven)

    def test_what_it_leads_to_comes_ahead_of_the_next_one_beside(self):
        one = story(
            scene("a", woven=("m", "b", "z")), scene("m", woven=("y", "c")), scene("y", woven=("x",)), scene("x"), scene("c"),
            scene("b", woven=("w",)), scene("w"), scene("z"),
        )
        self.assertEqual(self.names(one, "a"), "m y x c b w z")

    def test_each_once(self):
        one = story(scene("a", woven=("b", "c", "d")), scene("b", woven=("d",)), scene("c", woven=("b", "d")), scene("d", woven=("c",)))
        self.assertEqual(self.names(one, "a"), "b d c")
        self.assertEqual(self.names(one, "c"), "b d")

    def test_a_later_one_beside_comes_sooner_by_another(self):
        one = story(scene("a", woven=("b", "e")), scene("b", woven=("c",)), scene("c", woven=("e", "d")), scene("d"), scene("e"))
        self.assertEqual(self.names(one, "a"), "b c e d")

    def test_in_itself(self):
        one = story(scene("a", woven=("a",)), scene("b", woven=("b", "c", "a")), scene("c", woven=("b", "c")))
        self.assertEqual(self.names(one, "a"), "")
        self.assertEqual(self.names(one, "b"), "c a")
        self.assertEqual(self.names(one, "c"), "b a")

    def test_rings(self):
        one = story(scene("a", woven=("b",)), scene("b", woven=("c",)), scene("c", woven=("a",)))
        self.assertEqual([self.names(one, name) for name in "abc"], ["b c", "c a", "a b"])

    def test_the_choices_there(self):
        self.assertTrue(same(told(choices_at, story=self.EXAMPLE, name="a"),
                             (("a", "z"), ("a", "a"), ("b", "y"), ("d", "z"), ("d", "b"))))
        self.assertEqual(told(choices_at, story=self.EXAMPLE, name="b"),
                         (("b", "y"), ("d", "z"), ("d", "b"), ("a", "z"), ("a", "a")))
        self.assertEqual(choices_at(self.EXAMPLE, "c"), (("d", "z"), ("d", "b")))
        self.assertEqual(choices_at(self.EXAMPLE, "e"), (("e", "q"),))

    def test_choices_at_a_scene_woven_in_itself_are_there_once(self):
        one = story(scene("a", woven=("a", "b"), choices=(choice("x"),)), scene("b", woven=("a",), choices=(choice("x"),)))
        self.assertEqual(choices_at(one, "a"), (("a", "x"), ("b", "x")))
        self.assertEqual(choices_at(one, "b"), (("b", "x"), ("a", "x")))

    def test_endings_keep_their_choices(self):
        one = story(scene("a", choices=(choice("x"),), ending="good"))
        self.assertEqual(choices_at(one, "a"), (("a", "x"),))

    def test_none(self):
        self.assertTrue(same(told(choices_at, story=story(scene("a")), name="a"), ()))

    def test_the_inn(self):
        self.assertEqual(self.names(INN, "hall"), "cellar")
        self.assertEqual(choices_at(INN, "hall"), (("hall", "descend"), ("hall", "open"), ("hall", "wait")))

    def test_no_such_scene(self):
        for name in ("none", "x", "aa"):
            for function in (woven_at, choices_at):
                self.assertEqual(refusal(function, NoScene, "name", story=self.EXAMPLE, name=name), (name,))
                with self.assertRaises(LackError):
                    function(self.EXAMPLE, name)


if __name__ == "__main__":
    unittest.main()

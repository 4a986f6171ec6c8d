"""STORIES and STANDS CALLED otherwise."""

import unittest

from forktales.callings import stand_called, story_called
from forktales.errors import NoChoice, NoScene
from forktales.scenekinds import is_story
from forktales.tables import table_turned
from tests.helpers import refusal, same, told
from tests.samples import INN, VOID, choice, scene, story

NONE = ((), ())


def seen(name):
    return ("is", ("seen", name), ">", ("plus", ("num", 1), ("seen", name)))


def full(one, other, *, x="x", y="y"):
    """A scene in which one and other are named at each place, with choices x and y, woven both."""
    worth = ("worth", ("minus", ("seen", one), ("seen", other)))
    return (
        one,
        (worth, ("if", seen(one), (worth,), (("only", "one", (worth,)),)), ("text", "one"), ("place", "one"), ("end",), ("glue",)),
        (
            (x, (worth, ("if", seen(other), (), (worth,))), ("not", ("all", (seen(one), ("at", "one", "other"), ("any", ())))), True,
             (("set", "one", ("seen", other)), ("draw", "one"), ("go", "one", "other"), ("put", "one", "one"), ("join", "one", "one"),
              ("leave", "one")), ("into", one, other)),
            (y, (), ("with", "one", "one"), False, (), ("to", other)),
            ("z", (), ("all", ()), True, (), ("back",)),
        ),
        (other, one),
        "one",
    )


def tale(one, other, **names):
    """A story of the full scene and another one."""
    return story(full(one, other, **names), scene(other, choices=(choice("w", ("to", one)),), ending="other"), begin=one,
                 numbers=(("one", 0, 3, 1),), places=("one", "other"), doors=(("one", "other"),), figures=(("one", "other"),), digits=(1, 2))


ONE = tale("one", "other")
MADE = (("one", "x"), ("one", "z"))
STAND = ("one", ("other", "one"), (2,), (("at", "one"),), (("one", 3), ("other", 0)), MADE, 1)


class Called(unittest.TestCase):
    def test_by_the_void_table(self):
        for one in (ONE, INN, VOID[:5] + ((scene("hall"),), "hall")):
            self.assertTrue(same(told(story_called, story=one, table=NONE), one))
        self.assertTrue(same(told(stand_called, story=ONE, stand=STAND, table=NONE), STAND))

    def test_scenes_wherever_they_stand(self):
        table = ((("one", "uno"), ("other", "due")), ())
        called = told(story_called, story=ONE, table=table)
        self.assertTrue(same(called, tale("uno", "due")))
        self.assertEqual([part[0] for part in called[5]], ["due", "uno"])
        self.assertIs(is_story(called), True)

    def test_scenes_that_are_not_called_otherwise(self):
        self.assertTrue(same(story_called(ONE, ((("one", "zz"),), ())), tale("zz", "other")))
        self.assertTrue(same(story_called(ONE, ((("other", "a"),), ())), tale("one", "a")))

    def test_scenes_exchanged(self):
        table = ((("one", "other"), ("other", "one")), ())
        self.assertTrue(same(told(story_called, story=ONE, table=table), tale("other", "one")))

    def test_words_of_other_sorts_stay(self):
        one = story(scene("a", pieces=(("worth", ("of", "a")), ("place", "a"), ("only", "a", ()), ("text", "a")), ending="a"),
                    numbers=(("a", 0, 0, 0),), places=("a",), figures=(("a", "a"),))
        called = story_called(one, ((("a", "b"),), ()))
        self.assertEqual(called, one[:5] + ((("b",) + one[5][0][1:],), "b"))

    def test_choices(self):
        table = ((), ((("one", "x"), ("one", "y")), (("one", "y"), ("one", "x"))))
        self.assertTrue(same(told(story_called, story=ONE, table=table), tale("one", "other", x="y", y="x")))
        both = ((("one", "uno"),), ((("one", "x"), ("uno", "new")),))
        self.assertTrue(same(story_called(ONE, both), tale("uno", "other", x="new")))

    def test_choices_keep_their_order(self):
        table = ((), ((("one", "x"), ("one", "zz")),))
        called = story_called(ONE, table)
        self.assertEqual([part[0] for part in called[5][0][2]], ["zz", "y", "z"])

    def test_pairs_of_what_is_not_there_do_not_matter(self):
        table = ((("none", "nix"),), ((("none", "x"), ("gone", "y")),))
        self.assertTrue(same(story_called(ONE, table), ONE))

    def test_turned_about_it_is_the_former(self):
        for table in (
            ((("one", "uno"), ("other", "due")), ((("one", "x"), ("uno", "v")), (("one", "y"), ("uno", "x")))),
            ((("one", "other"), ("other", "one")), ()),
            ((), ((("one", "x"), ("one", "y")), (("one", "y"), ("one", "x")))),
        ):
            called = story_called(ONE, table)
            self.assertTrue(same(story_called(called, table_turned(table)), ONE))
            stand = stand_called(ONE, STAND, table)
            self.assertTrue(same(stand_called(called, stand, table_turned(table)), STAND))

    def test_the_inn(self):
        table = ((("cellar", "zzz"), ("hall", "a"), ("loft", "hall")), ((("hall", "open"), ("a", "shut")), (("zoo", "a"), ("zoo", "b"))))
        called = told(story_called, story=INN, table=table)
        self.assertEqual([part[0] for part in called[5]], ["a", "hall", "zoo", "zzz"])
        self.assertEqual([part[0] for part in called[5][0][2]], ["descend", "shut", "wait"])
        self.assertEqual(called[6], "a")
        self.assertEqual(called[5][0][3], ("zzz", "a"))
        self.assertEqual(called[5][2], ("zoo", INN[5][3][1], (("b", (), ("all", ()), False, (), ("to", "zoo")),), ("hall",), None))
        self.assertTrue(same(called[:5], INN[:5]))
        self.assertTrue(same(story_called(called, table_turned(table)), INN))


class Stands(unittest.TestCase):
    def test_all_that_names_scenes_and_choices(self):
        table = ((("one", "uno"), ("other", "due")), ((("one", "x"), ("uno", "zz")),))
        self.assertTrue(same(told(stand_called, story=ONE, stand=STAND, table=table), (
            "uno", ("due", "uno"), (2,), (("at", "one"),), (("due", 0), ("uno", 3)), (("uno", "z"), ("uno", "zz")), 1,
        )))

    def test_what_does_not_name_scenes_stays(self):
        stand = ("one", (), (0,), (("at", "other"),), (("one", 1), ("other", 9)), (), 0)
        self.assertEqual(stand_called(ONE, stand, ((("one", "zz"),), ())),
                         ("zz", (), (0,), (("at", "other"),), (("other", 9), ("zz", 1)), (), 0))

    def test_the_stack_keeps_its_order(self):
        stand = STAND[:1] + (("other", "one", "one"),) + STAND[2:]
        self.assertEqual(stand_called(ONE, stand, ((("one", "a"), ("other", "z")), ()))[1], ("z", "a", "a"))


class Refused(unittest.TestCase):
    def refuses(self, error, table, *fields, one=ONE):
        names = {NoScene: ("name",), NoChoice: ("choice", "why")}[error]
        self.assertEqual(refusal(story_called, error, *names, story=one, table=table), fields)
        begin = (one[6], (), (1,), (("at", "other"),), (), (), 0)
        for stand in (STAND, begin):
            self.assertEqual(refusal(stand_called, error, *names, story=one, stand=stand, table=table), fields)

    def test_scenes_without_call(self):
        self.refuses(NoScene, ((("a", "one"),), ()), "one")
        self.refuses(NoScene, ((("a", "other"),), ()), "other")
        self.refuses(NoScene, ((("one", "other"),), ()), "other")

    def test_the_first_as_they_rise(self):
        self.refuses(NoScene, ((("a", "other"), ("b", "one")), ()), "one")
        three = story(scene("a"), scene("b"), scene("c"), begin="c")
        self.refuses(NoScene, ((("x", "c"), ("y", "b")), ()), "b", one=three)

    def test_scenes_go_ahead_of_choices(self):
        self.refuses(NoScene, ((("a", "other"),), ((("one", "x"), ("far", "x")),)), "other")

    def test_choices_without_call(self):
        self.refuses(NoChoice, ((), ((("a", "a"), ("one", "y")),)), ("one", "y"), "table")
        self.refuses(NoChoice, ((), ((("one", "x"), ("one", "y")),)), ("one", "y"), "table")
        self.refuses(NoChoice, ((("one", "uno"),), ((("a", "a"), ("uno", "z")),)), ("one", "z"), "table")

    def test_choices_called_in_another_scene(self):
        self.refuses(NoChoice, ((), ((("one", "y"), ("other", "y")),)), ("one", "y"), "table")
        self.refuses(NoChoice, ((), ((("other", "w"), ("far", "w")),)), ("other", "w"), "table")
        self.refuses(NoChoice, ((("one", "uno"),), ((("one", "x"), ("one", "x")),)), ("one", "x"), "table")

    def test_the_first_choice(self):
        self.refuses(NoChoice, ((), ((("one", "x"), ("far", "x")), (("one", "z"), ("far", "z")))), ("one", "x"), "table")
        self.refuses(NoChoice, ((), ((("one", "z"), ("far", "z")), (("other", "w"), ("far", "w")))), ("one", "z"), "table")
        two = story(scene("a", choices=(choice("z"), choice("b"))), scene("b", choices=(choice("a"),)))
        table = ((), ((("a", "b"), ("far", "b")), (("a", "z"), ("far", "z")), (("b", "a"), ("far", "a"))))
        self.refuses(NoChoice, table, ("a", "z"), "table", one=two)


if __name__ == "__main__":
    unittest.main()

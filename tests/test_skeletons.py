"""SKELETONS of STORIES."""

import unittest

from forktales.scenekinds import is_story
from forktales.skeletons import skeleton_of
from tests.helpers import same, told
from tests.samples import INN, VOID, choice, scene, story


class Skeletons(unittest.TestCase):
    def test_the_inn(self):
        bare = told(skeleton_of, story=INN)
        self.assertTrue(same(bare[:5], INN[:5]))
        self.assertEqual(bare[6], "hall")
        self.assertEqual(len(bare), 7)
        for old, new in zip(INN[5], bare[5]):
            self.assertEqual((old[0], (), old[3], old[4]), (new[0], new[1], new[3], new[4]))
            self.assertTrue(same(tuple((c[0], ()) + c[2:] for c in old[2]), new[2]))
        self.assertEqual(len(bare[5]), len(INN[5]))
        self.assertIs(is_story(bare), True)

    def test_written_in_full(self):
        deeds = (("draw", "n"), ("set", "n", ("seen", "a")))
        full = choice("c", ("into", "a", "b"), label=(("text", "x"), ("end",)), test=("is", ("seen", "a"), "<", ("num", 1)),
                      once=True, deeds=deeds)
        one = story(
            scene("a", pieces=(("worth", ("seen", "b")), ("only", "r", (("text", "t"),))), choices=(full,), woven=("b",)),
            scene("b", pieces=(("if", ("all", ()), (("end",),), ()),), ending="good"),
            numbers=(("n", 0, 1, 0),), places=("p", "q"), doors=(("p", "q"),), figures=(("f", "p"),), digits=(1,),
        )
        self.assertEqual(told(skeleton_of, story=one), (
            (("n", 0, 1, 0),), ("p", "q"), (("p", "q"),), (("f", "p"),), (1,),
            (
                ("a", (), (("c", (), ("is", ("seen", "a"), "<", ("num", 1)), True, deeds, ("into", "a", "b")),), ("b",), None),
                ("b", (), (), (), "good"),
            ),
            "a",
        ))

    def test_of_itself_and_of_the_void_one(self):
        bare = skeleton_of(INN)
        self.assertTrue(same(told(skeleton_of, story=bare), bare))
        self.assertTrue(same(told(skeleton_of, story=VOID), VOID))

    def test_same_skeleton(self):
        one = story(scene("a", pieces=(("text", "x"),), choices=(choice("c", label=(("text", "y"),)),)))
        other = story(scene("a", pieces=(("text", "z"), ("end",)), choices=(choice("c"),)))
        third = story(scene("a", choices=(choice("c", ("to", "a")),)))
        self.assertEqual(skeleton_of(one), skeleton_of(other))
        self.assertNotEqual(skeleton_of(one), skeleton_of(third))


if __name__ == "__main__":
    unittest.main()

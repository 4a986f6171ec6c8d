"""LOOSE ENDS."""

import unittest

from forktales.looseness import loose_ends
from tests.helpers import told
from tests.samples import INN, choice, scene, story


def to(*names):
    """CHOICES that lead to these scenes."""
    return tuple(choice("c" + name, ("to", name)) for name in names)


class LooseEnds(unittest.TestCase):
    def loose(self, *scenes, begin="a"):
        names = told(loose_ends, story=story(*scenes, begin=begin))
        self.assertIs(type(names), tuple)
        return " ".join(names)

    def test_begin_is_come_to(self):
        self.assertEqual(self.loose(scene("a")), "")
        self.assertEqual(self.loose(scene("a"), scene("b"), begin="b"), "a")

    def test_all_others_rise(self):
        self.assertEqual(self.loose(scene("m"), scene("z"), scene("a"), scene("b"), begin="m"), "a b z")

    def test_to(self):
        self.assertEqual(self.loose(scene("a", choices=to("b", "d")), scene("b"), scene("c"), scene("d")), "c")

    def test_into_and_later(self):
        into = (choice("x", ("into", "b", "c")),)
        self.assertEqual(self.loose(scene("a", choices=into), scene("b"), scene("c"), scene("d")), "d")

    def test_woven(self):
        self.assertEqual(self.loose(scene("a", woven=("c", "b")), scene("b"), scene("c"), scene("d")), "d")

    def test_through_others(self):
        scenes = (
            scene("a", choices=to("z")), scene("z", woven=("y",)), scene("y", choices=(choice("x", ("into", "w", "v")),)),
            scene("w", choices=to("u")), scene("v", choices=to("t")), scene("u"), scene("t"), scene("s", choices=to("a")),
        )
        self.assertEqual(self.loose(*scenes), "s")

    def test_choices_of_woven_scenes_lead_on(self):
        self.assertEqual(self.loose(scene("a", woven=("b",)), scene("b", choices=to("c")), scene("c"), scene("d")), "d")

    def test_rings_beside(self):
        ring = (scene("b", choices=to("c")), scene("c", woven=("d",)), scene("d", choices=(choice("x", ("into", "b", "a")),)))
        self.assertEqual(self.loose(scene("a", choices=to("a")), *ring), "b c d")

    def test_rings_that_are_come_to(self):
        ring = (scene("b", choices=to("c")), scene("c", choices=to("b", "a")))
        self.assertEqual(self.loose(scene("a", woven=("a", "b")), *ring), "")

    def test_seen_names_do_not_lead(self):
        seen = ("is", ("seen", "b"), ">", ("seen", "b"))
        free = choice("x", ("back",), test=seen, label=(("worth", ("seen", "b")),))
        self.assertEqual(self.loose(scene("a", pieces=(("worth", ("seen", "b")),), choices=(free,)), scene("b")), "b")

    def test_back_leads_nowhere_else(self):
        self.assertEqual(self.loose(scene("a", choices=(choice("b"),)), scene("b")), "b")

    def test_tests_once_and_endings_do_not_matter(self):
        shut = choice("x", ("to", "b"), test=("any", ()), once=True)
        self.assertEqual(self.loose(scene("a", choices=(shut,), ending="a"), scene("b"), scene("c")), "c")

    def test_the_inn(self):
        self.assertEqual(told(loose_ends, story=INN), ("loft", "zoo"))

    def test_a_long_way(self):
        names = [one + other for one in "abcdefghij" for other in "abcdefghij"]
        scenes = [scene(name, choices=to(names[k + 1]) if k < 98 else ()) for k, name in enumerate(names)]
        self.assertEqual(self.loose(*scenes, begin="aa"), "jj")


if __name__ == "__main__":
    unittest.main()

"""Any thing looked at as a whole story."""

import unittest

from forktales.errors import NoStory, TaleError
from forktales.looking import looks_of
from forktales.namings import namings_of
from forktales.scenekinds import is_story
from forktales.storyreadings import story_read
from forktales.storytexts import story_text
from forktales.wholeness import is_whole, lets_whole
from tests.helpers import STRANGE, bent, deep, refusal, same, told
from tests.samples import ALWAYS, INN, TOUR, VOID, changed, choice, largest, scene, story
from tests.storymaker import Maker
from tests.waysamples import ROUND


def slow_word(thing):
    """("let", True) or the fields of the refusal, straight from the document; thing a STORY."""
    numbers, places, doors, figures, _, scenes, begin = thing
    for k, door in enumerate(doors):
        if set(door) - set(places):
            return ("door", k)
    for k, row in enumerate(figures):
        if row[1] not in places:
            return ("figure", k)
    names = {"number": [row[0] for row in numbers], "place": places, "figure": [row[0] for row in figures], "scene": [row[0] for row in scenes]}
    if begin not in names["scene"]:
        return ("begin", -1)
    for k, row in enumerate(scenes):
        for j, (sort, name) in enumerate(namings_of(row)):
            if name not in names[sort]:
                return (sort, (k, j))
    return None


class Looked(unittest.TestCase):
    def whole(self, thing):
        self.assertIs(told(is_whole, thing=thing), True)
        self.assertIs(told(lets_whole, thing=thing), True)

    def refused(self, thing, word, at):
        self.assertIs(told(is_whole, thing=thing), False)
        found = refusal(lets_whole, NoStory, "word", "at", thing=thing)
        self.assertTrue(same(found, (word, at)), found)


class Whole(Looked):
    def test_whole_ones(self):
        for one in (TOUR, INN, ROUND, largest(), story(scene("a"))):
            self.whole(one)

    def test_a_reader_may_be_any_word(self):
        self.whole(story(scene("a", pieces=(("only", "nobody", (("end",),)),))))

    def test_made_ones(self):
        for seed in range(60):
            self.whole(Maker(seed).story())
            self.whole(story_read(story_text(Maker(seed).story())))


class Refused(Looked):
    def test_shape(self):
        for thing in (*STRANGE, deep((), 30), list(TOUR), TOUR[:6], (*TOUR, ()), changed(TOUR, digit=None), (TOUR,), (*TOUR[:4], (10,), *TOUR[5:]),
                      (*TOUR[:4], (True,), *TOUR[5:]), (*TOUR[:6], "Hall"), (*TOUR[:6], None), (*TOUR[:5], TOUR[5][::-1], TOUR[6])):
            self.refused(thing, "shape", -1)

    def test_the_refusal(self):
        with self.assertRaises(NoStory) as caught:
            lets_whole(VOID)
        self.assertIsInstance(caught.exception, TaleError)

    PARTS = {"places": ("inn", "lake"), "doors": (("inn", "lake"),), "figures": (("ann", "inn"), ("bob", "lake")), "numbers": (("n", 0, 9, 0),)}

    def of(self, *scenes, **parts):
        return story(*(scenes or (scene("a"),)), **{**self.PARTS, **parts})

    def test_door(self):
        self.refused(self.of(doors=(("attic", "lake"),)), "door", 0)
        self.refused(self.of(doors=(("inn", "road"),)), "door", 0)
        self.refused(self.of(doors=(("inn", "lake"), ("inn", "road"), ("x", "z"))), "door", 1)
        self.refused(self.of(places=()), "door", 0)
        # a place, not a figure, a scene
        self.refused(self.of(doors=(("a", "inn"),)), "door", 0)

    def test_figure(self):
        self.refused(self.of(figures=(("ann", "inn"), ("bob", "ann"))), "figure", 1)
        self.refused(self.of(figures=(("ann", "a"), ("bob", "road"))), "figure", 0)

    def test_begin(self):
        self.refused(self.of(begin="inn"), "begin", -1)
        self.refused(self.of(scene("b")), "begin", -1)
        self.refused(VOID, "begin", -1)

    def test_the_first_of_several(self):
        bad = scene("b", woven=("z",))
        all_due = {"doors": (("inn", "road"),), "figures": (("ann", "road"),), "begin": "x"}
        self.refused(self.of(bad, **all_due), "door", 0)
        del all_due["doors"]
        self.refused(self.of(bad, **all_due), "figure", 0)
        del all_due["figures"]
        self.refused(self.of(bad, **all_due), "begin", -1)
        self.refused(self.of(bad, begin="b"), "scene", (0, 0))

    def named(self, own, sort, j):
        """Of the second scene of three, the last of which is bad, too."""
        self.refused(self.of(scene("a"), own, scene("c", woven=("z",))), sort, (1, j))

    def test_each_sort(self):
        for piece, sort in ((("worth", ("of", "m")), "number"), (("worth", ("seen", "z")), "scene"), (("place", "zed"), "figure"),
                            (("if", ("at", "zed", "inn"), (), ()), "figure"), (("if", ("at", "ann", "road"), (), ()), "place"),
                            (("if", ("with", "ann", "zed"), (), ()), "figure")):
            at = {"place": 1, "figure": 1 if piece[1][0] == "with" else 0}.get(sort, 0)
            self.named(scene("b", pieces=(("text", "x"), piece)), sort, at)
            self.named(scene("b", pieces=(("place", "ann"), piece)), sort, at + 1)
            # four within
            inner = ("if", ALWAYS, (), (("only", "pia", (("if", ALWAYS, (piece,), ()),)),))
            self.named(scene("b", pieces=(("place", "ann"), ("if", ALWAYS, (("place", "bob"),), (inner,)))), sort, at + 2)

    def test_a_name_of_another_sort(self):
        self.named(scene("b", pieces=(("worth", ("of", "ann")),)), "number", 0)
        self.named(scene("b", pieces=(("worth", ("seen", "n")),)), "scene", 0)
        self.named(scene("b", pieces=(("place", "inn"),)), "figure", 0)
        self.named(scene("b", pieces=(("if", ("at", "ann", "a"), (), ()),)), "place", 1)

    def test_in_a_label_a_test_a_deed_a_next_a_woven(self):
        seen = ("place", "bob")
        for own, sort in (
            (choice("x", label=(("worth", ("minus", ("num", 1), ("plus", ("num", 0), ("of", "m")))),)), "number"),
            (choice("x", test=("all", (("not", ("any", (("is", ("num", 1), "=", ("of", "m")),))),))), "number"),
            (choice("x", deeds=(("set", "m", ("num", 1)),)), "number"), (choice("x", deeds=(("draw", "m"),)), "number"),
            (choice("x", deeds=(("leave", "zed"),)), "figure"), (choice("x", ("to", "z")), "scene"), (choice("x", ("into", "z", "a")), "scene"),
        ):
            self.named(scene("b", pieces=(seen,), choices=(own,), woven=("y",)), sort, 1)
        for own, sort in (
            (choice("x", deeds=(("set", "n", ("of", "m")),)), "number"), (choice("x", deeds=(("go", "ann", "road"),)), "place"),
            (choice("x", deeds=(("put", "ann", "road"),)), "place"), (choice("x", deeds=(("join", "ann", "zed"),)), "figure"),
            (choice("x", ("into", "a", "z")), "scene"),
        ):
            self.named(scene("b", choices=(own,), woven=("y",)), sort, 1)
        self.named(scene("b", pieces=(seen,), woven=("a", "b", "z", "y")), "scene", 3)

    def test_the_first_scene_and_its_first_naming(self):
        self.refused(self.of(scene("a", pieces=(("place", "ann"), ("place", "x"), ("place", "y"))), scene("b", woven=("z",))), "figure", (0, 1))


class Many(Looked):
    def test_bent(self):
        for thing in bent(ROUND):
            if not is_story(thing):
                self.refused(thing, "shape", -1)
            elif slow_word(thing) is None:
                self.whole(thing)
            else:
                self.refused(thing, *slow_word(thing))

    def test_some_of_it_gone(self):
        words = []
        for seed in range(80):
            maker = Maker(seed)
            numbers, places, doors, figures, digits, scenes, begin = maker.story()
            one = (maker.some(numbers), maker.some(places), maker.some(doors), maker.some(figures), digits, maker.some(scenes, 5), begin)
            if maker.one((True, False)):
                one = (numbers, places, doors, figures, digits, scenes[:4] + scenes[4:] * maker.one((0, 1)), scenes[0][0])
            word = slow_word(one)
            words.append(word and word[0])
            if word is None:
                self.whole(one)
            else:
                self.refused(one, *word)
            # WHOLE just where the doors, the figures' places and begin are there, and all LOOKS are ()
            self.assertEqual(is_whole(one), words[-1] not in ("door", "figure", "begin") and not any(look for _, look in looks_of(one)))
        for word in (None, "door", "figure", "begin", "scene"):
            self.assertGreater(words.count(word), 2, word)


if __name__ == "__main__":
    unittest.main()

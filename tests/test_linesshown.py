"""All lines that are ever shown."""

import unittest

from forktales.errors import NoMore
from forktales.linesshown import lines_shown
from forktales.shownlines import shown
from forktales.treeruns import run
from tests import slowways
from tests.helpers import refusal, same, told
from tests.pairsamples import NEVER, walk
from tests.samples import TOUR, choice, scene, story
from tests.storymaker import Maker
from tests.waysamples import GROWS, ONE_MORE, N, pairs_of


class Lines(unittest.TestCase):
    def tells(self, one, *rows, **most):
        """Each line, and the rows of which one has to be told."""
        answer = told(lines_shown, story=one, **most)
        self.assertIs(type(answer), tuple)
        self.assertEqual([line for line, _ in answer], [line for line, *_ in rows])
        for (line, row), (_, *words) in zip(answer, rows):
            self.assertIn(row, [pairs_of(some) for some in words])
            here = run(one, row)[-1]
            self.assertTrue(any(line in shown(one, here, reader=reader) for reader in (None, *slowways.only_readers(one))))

    def test_none(self):
        self.tells(story(scene("a")))
        self.tells(story(scene("a", pieces=(("text", "  "), ("end",), ("glue",)))))

    def test_here_and_there(self):
        one = story(
            scene("a", pieces=(("text", "one"),), choices=(choice("x", ("to", "b")), choice("y", ("to", "c")))),
            scene("b", pieces=(("text", "two"), ("end",), ("text", "three")), choices=(choice("x", ("to", "c")),)),
            scene("c", pieces=(("text", "three"), ("end",), ("text", "four"))), scene("d", pieces=(("text", "never"),)),
        )
        self.tells(one, ("four", "a.y"), ("one", ""), ("three", "a.x", "a.y"), ("two", "a.x"))

    def test_the_shortest_row_is_told(self):
        long_ahead = walk("ax>b", "bx>c", "cx>d", "az>d")
        rows = tuple((name, (("text", "far"),) if name == "d" else (), *rest) for name, _, *rest in long_ahead[5])
        self.tells((*long_ahead[:5], rows, "a"), ("far", "a.z"))

    def test_to_one_reader_alone_and_to_none(self):
        pieces = (("text", "to "), ("only", "pia", (("text", "pia"),)), ("only", "tom", (("text", "tom"), ("only", "ann", (("text", "never"),)))))
        self.tells(story(scene("a", pieces=pieces)), ("to", ""), ("to pia", ""), ("to tom", ""))

    def test_a_reader_of_another_scene(self):
        """Who is named in one scene alone is shown in the others what None is."""
        one = story(scene("a", pieces=(("text", "hi"),), choices=(choice("x", ("to", "b")),)), scene("b", pieces=(("only", "pia", (("text", "pia"),)),)))
        self.tells(one, ("hi", ""), ("pia", "a.x"))

    def test_by_glue_and_end(self):
        pieces = (("text", "a "), ("end",), ("glue",), ("end",), ("text", "b"), ("end",), ("text", " "), ("end",), ("text", "c"))
        self.tells(story(scene("a", pieces=pieces)), ("a b", ""), ("c", ""))
        self.tells(story(scene("a", pieces=(("only", "pia", (("glue",),)), *pieces[:2], ("text", "b")))), ("a", ""), ("b", ""))
        self.tells(story(scene("a", pieces=(("text", "a"), ("end",), ("only", "pia", (("glue",),)), ("text", "b")))), ("a", ""), ("ab", ""), ("b", ""))

    def test_labels_lines_are_not_there(self):
        label = (("text", "label"),)
        one = story(scene("a", choices=(choice("x", ("to", "b"), label=label),), woven=("c",)), scene("b"), scene("c", pieces=(("text", "woven"),)))
        self.tells(one)

    def test_worths_and_places(self):
        counts = story(scene("a", pieces=(("worth", ("of", "n")),), choices=(choice("x", ("to", "a"), deeds=(ONE_MORE,)),)), numbers=(("n", -1, 2, -1),))
        self.tells(counts, ("-1", ""), ("0", "a.x"), ("1", "a.x a.x"), ("2", "a.x a.x a.x"))
        moves = story(scene("a", pieces=(("place", "ann"),), choices=(choice("x", ("to", "a"), deeds=(("go", "ann", "road"),)),)),
                      places=("inn", "road"), doors=(("inn", "road"),), figures=(("ann", "inn"),))
        self.tells(moves, ("inn", ""), ("road", "a.x"))

    def test_behind_an_ending_and_behind_tests(self):
        one = story(scene("a", choices=(choice("x", ("to", "b")), choice("y", ("to", "c"), test=NEVER))),
                    scene("b", pieces=(("text", "end"),), choices=(choice("x", ("to", "c")),), ending="end"), scene("c", pieces=(("text", "c"),)))
        self.tells(one, ("end", "a.x"))


class TooMany(unittest.TestCase):
    def test_as_the_lean_ones(self):
        one = walk(*(("ax>a", {"deeds": (ONE_MORE,)}), ("ay>b", {"label": (("worth", ("of", "n")),)})), numbers=N)
        self.assertEqual(len(slowways.lean_heights(one, 99)), 11)
        for most in (0, 1, 10):
            self.assertTrue(same(refusal(lines_shown, NoMore, "many", story=one, most=most), (most,)))
        self.assertTrue(same(told(lines_shown, story=one, most=11), ()))
        self.assertTrue(same(told(lines_shown, story=GROWS), ()))

    def test_left_out(self):
        one = walk(*((f"a{name}>a", {"deeds": (("set", name, ("plus", ("of", name), ("num", 1))),)}) for name in "klm"),
                   ("ax>a", {"label": tuple(("worth", ("of", name)) for name in "klm")}), numbers=tuple((name, 0, 9, 0) for name in "klm"))
        self.assertEqual(refusal(lines_shown, NoMore, "many", story=one), (400,))


class Many(unittest.TestCase):
    def test_as_slowly(self):
        found = 0
        for seed in range(60):
            maker = Maker(seed, lively=True)
            one = maker.story()
            fewest = slowways.lines(one, 30)
            if fewest is None:
                self.assertEqual(refusal(lines_shown, NoMore, "many", story=one, most=30), (30,))
                continue
            answer = lines_shown(one, most=30)
            self.assertTrue(same(tuple((line, len(row)) for line, row in answer), tuple(sorted(fewest.items()))))
            for line, row in answer:
                here = run(one, row)[-1]
                self.assertTrue(any(line in shown(one, here, reader=reader) for reader in (None, *slowways.only_readers(one))))
            found += len(answer)
        self.assertGreater(found, 40)

    def test_the_tour(self):
        answer = dict(lines_shown(TOUR, most=1000))
        self.assertEqual(answer["The hall, lake"], ())
        self.assertEqual(answer["psst 3"], ())
        self.assertEqual(len(answer), len(slowways.lines(TOUR, 1000)))


if __name__ == "__main__":
    unittest.main()

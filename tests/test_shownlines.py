"""What is shown at a STAND."""

import itertools
import unittest

from forktales.shownlines import shown
from tests import slowtale
from tests.helpers import same, told
from tests.samples import ALWAYS, BIG, TOUR, TOUR_FIRST, at_with, changed, choice, largest, scene, stand, story

NEVER = ("any", ())
END, GLUE = ("end",), ("glue",)


def text(words):
    return ("text", words)


class Shown(unittest.TestCase):
    def shown(self, *pieces, **reader):
        one = story(scene("a", pieces=pieces), numbers=(("n", -BIG, 9, -3),), places=("inn", "lake"), figures=(("ann", "inn"), ("bob", "lake")))
        at = stand(numbers=(-3,), wheres=at_with("=bob lake"))
        lines = told(shown, story=one, stand=at, **reader)
        self.assertIs(type(lines), tuple)
        return list(lines)


class Lines(Shown):
    def test_the_example(self):
        self.assertEqual(self.shown(text("a "), END, GLUE, END, text("b"), END, text(" "), END, text("c")), ["a b", "c"])

    def test_nothing(self):
        self.assertEqual(self.shown(), [])
        for pieces in ((text(""),), (text("  "),), (END,), (GLUE,), (END, GLUE, text(""), GLUE, END), (text(" "), END, text("  "))):
            self.assertEqual(self.shown(*pieces), [])

    def test_one_behind_the_other(self):
        self.assertEqual(self.shown(text("a"), text(" "), text("b"), text("c")), ["a bc"])

    def test_ends_part(self):
        self.assertEqual(self.shown(text("a"), END, text("b")), ["a", "b"])
        self.assertEqual(self.shown(text("a"), END, END, END, text("b")), ["a", "b"])
        self.assertEqual(self.shown(text("a"), END, text("b"), END, text("c")), ["a", "b", "c"])

    def test_glues(self):
        self.assertEqual(self.shown(text("a"), GLUE, text("b"), GLUE, GLUE, text("c")), ["abc"])
        for many in (1, 2, 3, 4):
            for marks in itertools.product((END, GLUE), repeat=many):
                self.assertEqual(self.shown(text("a"), *marks, text("b")), ["ab"] if GLUE in marks else ["a", "b"], marks)

    def test_a_glue_takes_away_the_ends_beside_it_alone(self):
        self.assertEqual(self.shown(text("a"), END, text("b"), GLUE, text("c"), END, text("d")), ["a", "bc", "d"])
        self.assertEqual(self.shown(text("a"), GLUE, text("b"), END, text("c")), ["ab", "c"])

    def test_ahead_of_all_texts_and_behind_all(self):
        for marks in ((END,), (GLUE,), (END, GLUE), (GLUE, END, END)):
            self.assertEqual(self.shown(*marks, text("a"), END, text("b")), ["a", "b"])
            self.assertEqual(self.shown(text("a"), END, text("b"), *marks), ["a", "b"])
            self.assertEqual(self.shown(text(""), *marks, text("a"), END, text("b"), *marks, text("")), ["a", "b"])

    def test_void_texts_are_as_if_they_were_not_there(self):
        self.assertEqual(self.shown(text("a"), END, text(""), GLUE, text("b")), ["ab"])
        self.assertEqual(self.shown(text("a"), GLUE, text(""), END, text("b")), ["ab"])
        self.assertEqual(self.shown(text("a"), END, text(""), END, text("b")), ["a", "b"])

    def test_texts_of_blanks_are_texts(self):
        self.assertEqual(self.shown(text("a"), END, text(" "), GLUE, text("b")), ["a", "b"])
        self.assertEqual(self.shown(text("a"), GLUE, text("  "), END, text("b")), ["a", "b"])
        self.assertEqual(self.shown(text(" "), END, text("b")), ["b"])
        self.assertEqual(self.shown(text("a"), GLUE, text("  "), GLUE, text("b")), ["a  b"])

    def test_blanks_at_both_ends(self):
        self.assertEqual(self.shown(text("  a  b "), END, text(" c")), ["a  b", "c"])
        self.assertEqual(self.shown(text("a "), text(" b"), GLUE, END, text(" c ")), ["a  b c"])

    def test_all_signs(self):
        signs = "".join(chr(code) for code in range(33, 127) if code != 37)
        self.assertEqual(self.shown(text(signs), END, text("\\n"), text("\\t")), [signs, "\\n\\t"])

    def test_lines_that_are_the_same(self):
        self.assertEqual(self.shown(text("a"), END, text("a")), ["a", "a"])


class Pieces(Shown):
    def test_worths(self):
        for n in (0, 7, 12, -1, -30, BIG, -BIG):
            self.assertEqual(self.shown(("worth", ("num", n))), [str(n)])
        self.assertEqual(self.shown(("worth", ("of", "n")), ("worth", ("minus", ("of", "n"), ("of", "n"))), text(" left")), ["-30 left"])

    def test_worths_and_places_are_texts(self):
        self.assertEqual(self.shown(("worth", ("num", 1)), END, ("place", "ann"), END, GLUE, ("worth", ("num", 2))), ["1", "lake2"])

    def test_places_by_chains(self):
        self.assertEqual(self.shown(("place", "ann"), text(","), ("place", "bob")), ["lake,lake"])

    def test_if(self):
        self.assertEqual(self.shown(("if", ALWAYS, (text("a"),), (text("b"),))), ["a"])
        self.assertEqual(self.shown(("if", NEVER, (text("a"),), (text("b"),))), ["b"])
        self.assertEqual(self.shown(("if", NEVER, (text("a"),), ()), ("if", ALWAYS, (), (text("b"),))), [])
        self.assertEqual(self.shown(("if", ("with", "ann", "bob"), (text("a"), ("if", NEVER, (), (text("b"),)), text("c")), ())), ["abc"])

    def test_marks_that_begin_in_an_if_and_end_outside(self):
        self.assertEqual(self.shown(text("a"), ("if", ALWAYS, (END,), ()), GLUE, text("b")), ["ab"])
        self.assertEqual(self.shown(text("a"), ("if", ALWAYS, (END, text("b"), END), ()), ("if", NEVER, (), (END, GLUE)), text("c")), ["a", "bc"])
        self.assertEqual(self.shown(text("a"), ("if", NEVER, (GLUE,), ()), END, text("b")), ["a", "b"])
        self.assertEqual(self.shown(END, ("if", ALWAYS, (GLUE, text("a "), END), ()), text(" b")), ["a", "b"])

    def test_only(self):
        pieces = (text("a"), ("only", "pia", (text("b"), ("only", "tom", (text("c"),)), ("only", "pia", (text("d"),)))), ("only", "tom", (text("e"),)))
        for reader, lines in (("pia", ["abd"]), ("tom", ["ae"]), ("nobody", ["a"]), ("a", ["a"]), (None, ["a"])):
            self.assertEqual(self.shown(*pieces, reader=reader), lines)
        self.assertEqual(self.shown(*pieces), ["a"])

    def test_marks_in_an_only(self):
        pieces = (text("a"), END, ("only", "pia", (GLUE,)), text("b"), ("only", "tom", (END,)), text("c"))
        for reader, lines in (("pia", ["abc"]), ("tom", ["a", "b", "c"]), (None, ["a", "bc"])):
            self.assertEqual(self.shown(*pieces, reader=reader), lines)

    def test_four_within_one_another(self):
        pieces = (text("x"),)
        for _ in range(4):
            pieces = (("if", ALWAYS, pieces, ()), END, ("only", "pia", pieces))
        self.assertEqual(self.shown(*pieces, reader="pia"), ["x"] * 16)
        self.assertEqual(self.shown(*pieces), ["x"])


class Stands(unittest.TestCase):
    def test_the_tour(self):
        for reader, lines in ((None, ("The hall, lake",)), ("pia", ("The hall, lake", "psst 3")), ("tom", ("The hall, lake",))):
            self.assertTrue(same(told(shown, story=TOUR, stand=TOUR_FIRST, reader=reader), lines))
        at = changed(TOUR_FIRST, numbers=(9, 0), wheres=at_with("=bob =cat attic"))
        self.assertEqual(told(shown, story=TOUR, stand=at, reader="pia"), ("The hall, attic", "psst 9"))
        self.assertEqual(told(shown, story=TOUR, stand=at), ("The hall, attic",))

    def test_of_the_scene_alone(self):
        one = story(scene("a", pieces=(text("a"),), woven=("b",)), scene("b", pieces=(text("b"),), choices=(choice("c", label=(text("c"),)),)))
        self.assertEqual(told(shown, story=one, stand=stand(stack=("b",))), ("a",))
        self.assertEqual(told(shown, story=one, stand=stand(scene="b")), ("b",))

    def test_a_scene_that_ends(self):
        self.assertEqual(told(shown, story=TOUR, stand=changed(TOUR_FIRST, scene="yard")), ("out",))

    def test_how_often_seen(self):
        one = story(scene("a", pieces=(("worth", ("seen", "a")),)))
        for many in (0, 1, 9):
            self.assertEqual(told(shown, story=one, stand=stand(seen=(("a", many),))), (str(many),))

    def test_the_largest(self):
        one = largest()
        for wheres in ("inn inn inn inn", "inn =ann lake =cat"):
            at = stand(scene="c", numbers=(9, 1, 2, 3), wheres=at_with(wheres), seen=(("a", 1), ("d", 0), ("e", 0), ("f", 0)))
            for reader in (None, "ann", "cat", "dan"):
                self.assertTrue(same(told(shown, story=one, stand=at, reader=reader), slowtale.shown(one, at, reader)))

    def test_long_pieces(self):
        pieces = (text("x"),)
        for _ in range(2000):
            pieces = (("if", ALWAYS, pieces, ()),)
        self.assertEqual(shown(story(scene("a", pieces=pieces)), stand()), ("x",))


if __name__ == "__main__":
    unittest.main()

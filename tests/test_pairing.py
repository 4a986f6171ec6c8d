"""Whether two stories go alike."""

import unittest

from forktales.bounds import PAIRS
from forktales.callings import story_called
from forktales.errors import NoMore, TaleError
from forktales.leading import row_led
from forktales.pairing import alike_or_parted
from forktales.pairjudge import lets_pairing
from forktales.skeletons import skeleton_of
from forktales.tables import table_turned
from tests import slowpairs, slowtale
from tests.helpers import refusal, same, told
from tests.leadsamples import BARRED, ONE, OTHER, TABLE
from tests.pairsamples import NEVER, PARTS_AT_A, PARTS_AT_B, PARTS_AT_D, PLAIN, counting, walk
from tests.samples import TOUR, choice, scene, stand, story
from tests.storymaker import Maker


class Paired(unittest.TestCase):
    def pairing(self, one, other, **named):
        answer = told(alike_or_parted, one=one, other=other, **named)
        self.assertIs(type(answer), tuple)
        table = {name: thing for name, thing in named.items() if name == "table"}
        self.assertEqual(slowpairs.pairing_word(one, other, answer, table.get("table", ((), ()))), ("let", answer[0]))
        self.assertEqual(lets_pairing(one, other, answer, **table), answer[0])
        return answer

    def alike(self, one, other, many, **named):
        word, pairs = self.pairing(one, other, **named)
        self.assertEqual((word, len(pairs)), ("alike", many))

    def parted(self, one, other, *rows, **named):
        word, row = self.pairing(one, other, **named)
        self.assertEqual(word, "parted")
        self.assertIn(" ".join(".".join(pair) for pair in row), rows)

    def too_many(self, one, other, most, **named):
        self.assertTrue(same(refusal(alike_or_parted, NoMore, "many", one=one, other=other, most=most, **named), (most,)))


class Alike(Paired):
    def test_a_story_and_itself(self):
        self.alike(PLAIN, PLAIN, 4)
        self.alike(PLAIN, PLAIN, 4, table=((), ()), most=4)
        self.alike(story(scene("a")), story(scene("a")), 1)
        word, pairs = self.pairing(PLAIN, PLAIN)
        self.assertTrue(same(pairs, tuple((stand(scene=name),) * 2 for name in "abcd")))

    def test_tests_and_labels_written_otherwise(self):
        other = walk(("ax>b", {"test": ("not", NEVER), "label": (("text", "x"),)}), "ay>c", "bx>c", "cy>a", "cx>d", ("ca>a", {"test": NEVER}))
        self.alike(PLAIN, other, 4)

    def test_skeletons(self):
        for one in (TOUR, ONE, PLAIN):
            self.assertEqual(self.pairing(one, skeleton_of(one))[0], "alike")

    def test_endings_both_alike(self):
        self.alike(PARTS_AT_D, PARTS_AT_D, 4)
        ended = scene("a", choices=(choice("x", ("to", "a")),), ending="end")
        self.alike(story(ended), story(scene("b", ending="end"), begin="b"), 1)

    def test_by_a_table(self):
        self.assertEqual(self.pairing(ONE, OTHER, table=TABLE)[0], "alike")
        self.assertEqual(self.pairing(OTHER, ONE, table=table_turned(TABLE))[0], "alike")

    def test_one_stand_beside_several(self):
        two = story(scene("a", choices=(choice("x", ("to", "b")),)), scene("b", choices=(choice("x", ("to", "a")),)))
        one = story(scene("a", choices=(choice("x", ("to", "a")),)))
        table = ((), ((("b", "x"), ("a", "x")),))
        self.parted(two, one, "a.x", table=((), ()))
        self.parted(two, one, "", table=table)
        twice = story(scene("a", choices=(choice("x", ("to", "b")),)), scene("b", woven=("a",)))
        self.alike(twice, one, 2)
        self.alike(one, twice, 2)

    def test_what_is_not_live_makes_no_pairs(self):
        put = {"deeds": (("set", "n", ("num", 1)),)}
        one = walk(("ax>a", put), ("ay>b", {"deeds": (("set", "n", ("num", 2)),)}), numbers=(("n", 0, 9, 0),))
        self.alike(one, one, 2)
        self.alike(one, walk("ax>a", "ay>b"), 2)

    def test_what_is_live_does(self):
        self.alike(counting(3), counting(3), 8)
        self.alike(counting(3), counting(3, "m"), 8)


class Parted(Paired):
    def test_at_once(self):
        self.parted(PLAIN, PARTS_AT_A, "")
        self.parted(PARTS_AT_A, PLAIN, "")
        self.parted(PLAIN, walk("ax>b", "ay>c", begin="d"), "")
        self.parted(story(scene("a", ending="end")), story(scene("a")), "")
        self.parted(story(scene("a", ending="end")), story(scene("a", ending="other")), "")

    def test_behind_some(self):
        self.parted(PLAIN, PARTS_AT_B, "a.x")
        self.parted(PARTS_AT_B, PLAIN, "a.x")

    def test_the_fewest(self):
        self.parted(PLAIN, PARTS_AT_D, "a.y c.x")
        both = walk("ax>b", ("ay>c", {"test": NEVER}), "bx>c", "cx>d", "cy>a")
        self.parted(both, walk("ax>b", "bx>c", "cx>d", "cy>a", ending="end"), "a.x b.x c.x")

    def test_behind_many(self):
        self.parted(counting(3), counting(4), "a.y c.y a.y c.y a.y c.y a.y")
        self.parted(counting(9), counting(8), " ".join(["a.y", "c.y"] * 8 + ["a.y"]))

    def test_no_call(self):
        table = ((), ((("a", "z"), ("a", "y")),))
        self.parted(PLAIN, PLAIN, "", table=table)
        self.parted(PLAIN, PLAIN, "a.x", table=((), ((("b", "z"), ("b", "x")),)))
        self.parted(ONE, OTHER, "")

    def test_calls_of_what_is_offered_are_some_of_the_others(self):
        self.parted(walk("ax>b"), walk("ax>b", "ay>b"), "")
        self.parted(walk("ax>b", "ay>b"), walk("ax>b"), "")

    def test_by_the_table(self):
        self.parted(ONE, BARRED, "", table=TABLE)


class TooMany(Paired):
    def test_alike(self):
        for most in (4, 5, 400):
            self.alike(PLAIN, PLAIN, 4, most=most)
        for most in (0, 1, 2, 3):
            self.too_many(PLAIN, PLAIN, most)
            self.too_many(PLAIN, PLAIN, most, table=((), ()))
        self.alike(story(scene("a")), story(scene("a")), 1, most=1)
        self.too_many(story(scene("a")), story(scene("a")), 0)

    def test_parted_at_once(self):
        self.parted(PLAIN, PARTS_AT_A, "", most=1)
        self.too_many(PLAIN, PARTS_AT_A, 0)

    def test_those_behind_a_parting_row_are_among_them(self):
        self.parted(PLAIN, PARTS_AT_D, "a.y c.x", most=4)
        self.too_many(PLAIN, PARTS_AT_D, 3)
        one, other = walk("ax>b", "by>c"), walk("ax>b", "bx>c")
        self.parted(one, other, "a.x", most=2)
        self.too_many(one, other, 1)

    def test_where_a_parting_row_is_found_sooner(self):
        self.parted(PLAIN, PARTS_AT_B, "a.x", most=4)
        self.too_many(PLAIN, PARTS_AT_B, 3)

    def test_what_is_behind_a_parting_row_is_not(self):
        long = walk("ax>b", "bx>c", "cx>d", "dx>a")
        self.parted(long, walk("ax>b", "bx>c", "cx>d", ("dx>a", {"test": NEVER}), ending="end"), "a.x b.x c.x", most=4)
        self.parted(long, walk("ax>b", "by>c", "cx>d", "dx>a"), "a.x", most=2)

    def test_left_out(self):
        self.assertEqual(PAIRS, 4000)
        amounts = tuple((name, 0, 9, 0) for name in "klmn")
        steps = tuple((f"a{name}>a", {"deeds": (("set", name, ("plus", ("of", name), ("num", 1))),)}) for name in "klmn")
        reads = ("ax>b", {"label": tuple(("worth", ("of", name)) for name in "klmn")})
        large = walk(*steps, reads, numbers=amounts)
        self.assertEqual(refusal(alike_or_parted, NoMore, "many", one=large, other=large), (4000,))
        # three numbers grow to nine, one to three: 4000 STANDS in a, one in b
        less = (("k", 0, 3, 0), *amounts[1:])
        self.too_many(walk(*steps, reads, numbers=less), walk(*steps, reads, numbers=less), 4000)
        just = walk(*steps, reads[:1] + ({**reads[1], "test": NEVER},), numbers=less)
        self.assertEqual(len(alike_or_parted(just, just)[1]), 4000)
        with self.assertRaises(TaleError):
            alike_or_parted(just, just, most=3999)


class Many(Paired):
    def compare(self, one, other, table, most):
        slow = slowpairs.reach(one, other, table, most)
        if slow is None:
            self.too_many(one, other, most, table=table)
            return "none"
        word, thing = self.pairing(one, other, table=table, most=most)
        pairs, least = slow
        if least is None:
            self.assertTrue(same((word, thing), ("alike", tuple(sorted(pairs)))))
        else:
            self.assertEqual((word, len(thing)), ("parted", least))
        back = alike_or_parted(other, one, table=table_turned(table), most=most)
        self.assertEqual(back[0], word)
        self.assertEqual(len(back[1]), len(thing))
        return word

    def test_edits(self):
        words = []
        for seed in range(70):
            maker = Maker(seed, lively=True)
            one = maker.story()
            other = maker.edited(maker.edited(one))
            table = ((), ())
            if seed > 40:
                table = maker.full_table(one)
                other = story_called(other, table)
            words.append(self.compare(one, other, table, 25))
            if words[-1] == "alike":
                self.each_row_is_led(maker, one, other, table)
                self.each_row_is_led(maker, other, one, table_turned(table))
        for word in ("alike", "parted", "none"):
            self.assertGreater(words.count(word), 4)

    def each_row_is_led(self, maker, one, other, table):
        """Where they go alike, to the same endings."""
        row, stands = maker.row(one, 8)
        _, others = row_led(one, other, row, table=table)
        endings = [slowtale.scene_of(one, stand[0])[4] for stand in stands]
        self.assertEqual(endings, [slowtale.scene_of(other, stand[0])[4] for stand in others])

    def test_called_otherwise(self):
        for seed in range(30):
            maker = Maker(seed, lively=True)
            one = maker.story()
            table = maker.full_table(one)
            self.assertIn(self.compare(one, story_called(one, table), table, 12), ("alike", "none"))
            self.compare(one, one, maker.table(), 12)


if __name__ == "__main__":
    unittest.main()

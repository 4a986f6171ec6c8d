"""Any thing looked at as PAIRS, or as a PARTING ROW."""

import unittest

from forktales.callings import story_called
from forktales.errors import NoMore
from forktales.pairing import alike_or_parted
from forktales.pairjudge import lets_pairing
from forktales.tables import table_turned
from tests import slowpairs
from tests.helpers import STRANGE, bent, deep, paper_fault, told
from tests.leadsamples import BARRED, GONE, ONE, OTHER, ROW, TABLE
from tests.pairsamples import NEVER, PARTS_AT_A, PARTS_AT_B, PARTS_AT_D, PLAIN, counting, walk
from tests.samples import changed, choice, scene, stand, story
from tests.storymaker import Maker


def twice(names):
    """Pairs of the same STAND of both stories."""
    return tuple((stand(scene=name), stand(scene=name)) for name in names)


def pairs_of(words):
    return tuple(tuple(word.split(".")) for word in words.split())


class Checked(unittest.TestCase):
    def let(self, one, other, thing, **table):
        self.assertEqual(told(lets_pairing, one=one, other=other, thing=thing, **table), thing[0])

    def refused(self, one, other, thing, word, at, **table):
        self.assertEqual(paper_fault(lets_pairing, one=one, other=other, thing=thing, **table), (word, at), thing)

    def pairs(self, one, other, pairs, word, at, **table):
        self.refused(one, other, ("alike", pairs), word, at, **table)

    def row(self, one, other, words, word, at, **table):
        self.refused(one, other, ("parted", pairs_of(words)), word, at, **table)


class Shape(Checked):
    def test_strange_things(self):
        pairs = twice("abcd")
        for thing in (*STRANGE, deep((), 30), (), ("alike",), ("alike", pairs, pairs), ["alike", pairs], ("alike", list(pairs)), (pairs, "alike"),
                      ("Alike", pairs), ("parts", ()), ("alike", None), ("alike", "ab"), (("alike",), pairs), (0, pairs), (None, ())):
            self.refused(PLAIN, PLAIN, thing, "shape", -1)
            self.refused(PLAIN, PARTS_AT_A, thing, "shape", -1)

    def test_pairs(self):
        for bad in ((), (stand(),), (stand(),) * 3, list(twice("a")[0]), None, "ab", 0):
            self.pairs(PLAIN, PLAIN, (*twice("ab"), bad), "shape", -1)
            self.pairs(PLAIN, PLAIN, ((None, None), bad), "shape", -1)

    def test_rows(self):
        for bad in ((), ("a",), ("a", "y", "z"), ["a", "y"], "ay", ("a", 0), ("a", "Y"), (None, "y"), ("", "y"), twice("a")[0]):
            self.refused(PLAIN, PARTS_AT_A, ("parted", (bad,)), "shape", -1)
            self.refused(PLAIN, PARTS_AT_A, ("parted", (("z", "z"), bad)), "shape", -1)
        self.refused(PLAIN, PARTS_AT_A, ("parted", [("a", "y")]), "shape", -1)
        self.refused(PLAIN, PARTS_AT_A, ("parted", "ay"), "shape", -1)


class Pairs(Checked):
    def test_let(self):
        self.let(PLAIN, PLAIN, ("alike", twice("abcd")))
        self.let(PLAIN, PLAIN, ("alike", twice("abcd")), table=((), ()))
        self.let(story(scene("a")), story(scene("a")), ("alike", twice("a")))

    def test_more_pairs_than_come_in(self):
        self.let(walk("ax>a", "bx>b"), walk("ax>a", "bx>b"), ("alike", (*twice("ab"), (stand(scene="d"), stand(scene="c")))))
        self.let(walk("ax>a"), walk("ax>a"), ("alike", (*twice("ab"), (stand(scene="c"), stand(scene="b")), *twice("d"))))

    def test_stand(self):
        for bad in (None, (), stand(scene="e"), list(stand()), stand(digit=1), stand(numbers=(0,)), stand(digit=False), stand(made=(("a", "x"),)), "a"):
            self.pairs(PLAIN, PLAIN, ((bad, stand()),), "stand", (0, 0))
            self.pairs(PLAIN, PLAIN, ((stand(), bad),), "stand", (0, 1))
            self.pairs(PLAIN, PLAIN, ((bad, bad),), "stand", (0, 0))
            self.pairs(PLAIN, PLAIN, (*twice("ba")[:1], (stand(), bad), (bad, bad)), "stand", (1, 1))

    def test_stands_that_are_not_lean(self):
        one = walk("ax>b", "bx>a", numbers=(("n", 0, 9, 5),), digits=(1, 2))
        lean = (stand(numbers=(5,)), stand(numbers=(5,), scene="b"))
        self.let(one, one, ("alike", tuple((at, at) for at in lean)))
        for bad in (changed(lean[1], numbers=(6,)), changed(lean[1], digit=1)):
            self.pairs(one, one, ((lean[0], lean[0]), (bad, lean[1])), "stand", (1, 0))
            self.pairs(one, one, ((lean[0], lean[0]), (lean[1], bad)), "stand", (1, 1))

    def test_each_of_its_own_story(self):
        less = walk("ax>b", "bx>a", numbers=(("n", 0, 9, 5),))
        more = walk("ax>b", "bx>a")
        pairs = ((stand(numbers=(5,)), stand()), (stand(scene="b", numbers=(5,)), stand(scene="b")))
        self.let(less, more, ("alike", pairs))
        self.pairs(more, less, pairs, "stand", (0, 0))
        self.pairs(less, less, pairs, "stand", (0, 1))

    def test_rise(self):
        self.pairs(PLAIN, PLAIN, twice("acbd"), "rise", 2)
        self.pairs(PLAIN, PLAIN, twice("aabcd"), "rise", 1)
        self.pairs(PLAIN, PLAIN, twice("abcdd"), "rise", 4)
        self.pairs(PLAIN, PLAIN, twice("ba"), "rise", 1)
        self.pairs(PLAIN, PLAIN, ((stand(scene="b"), stand(scene="c")), (stand(scene="b"), stand(scene="b"))), "rise", 1)

    def test_pair_by_pair(self):
        self.pairs(PLAIN, PLAIN, (*twice("ba"), (None, None)), "rise", 1)
        self.pairs(PLAIN, PLAIN, (*twice("b"), (stand(), None), *twice("b")), "stand", (1, 1))
        self.pairs(PLAIN, PLAIN, (*twice("bc"), (None, stand())), "stand", (2, 0))

    def test_first(self):
        self.pairs(PLAIN, PLAIN, (), "first", -1)
        self.pairs(PLAIN, PLAIN, twice("bcd"), "first", -1)
        self.pairs(PLAIN, PARTS_AT_D, twice("d"), "first", -1)
        self.pairs(PLAIN, PLAIN, ((stand(), stand(scene="b")), (stand(scene="b"), stand())), "first", -1)

    def test_ending(self):
        self.pairs(PLAIN, PARTS_AT_D, twice("abcd"), "ending", 3)
        self.pairs(PARTS_AT_D, PLAIN, twice("abcd"), "ending", 3)
        ends = [story(scene("a", ending=ending, choices=(choice("x", ("to", "a"), test=test),)))
                for ending, test in (("end", NEVER), ("other", ("all", ())), (None, ("all", ())))]
        for one in ends:
            for other in ends:
                if one != other:
                    self.pairs(one, other, twice("a"), "ending", 0)

    def test_offers(self):
        self.pairs(PLAIN, PARTS_AT_B, twice("abcd"), "offers", 1)
        self.pairs(PARTS_AT_B, PLAIN, twice("abcd"), "offers", 1)
        self.pairs(PLAIN, PARTS_AT_A, twice("abcd"), "offers", 0)
        self.pairs(PARTS_AT_A, PLAIN, twice("abcd"), "offers", 0)
        self.pairs(walk("ax>a"), walk("ay>a"), twice("a"), "offers", 0)

    def test_offers_without_a_call(self):
        self.pairs(PLAIN, PLAIN, twice("abcd"), "offers", 2, table=((), ((("c", "a"), ("c", "x")),)))
        self.pairs(ONE, OTHER, (), "first", -1)

    def test_step(self):
        self.pairs(PLAIN, PLAIN, twice("a"), "step", (0, 0))
        self.pairs(PLAIN, PLAIN, twice("ab"), "step", (0, 1))
        self.pairs(PLAIN, PLAIN, twice("acd"), "step", (0, 0))
        self.pairs(PLAIN, PLAIN, twice("abc"), "step", (2, 0))
        self.pairs(PLAIN, PLAIN, twice("abd"), "step", (0, 1))

    def test_offers_by_their_numbers_alone(self):
        one = walk(("ap>b", {"test": NEVER}), "aq>b", "ar>c", "cx>d")
        self.pairs(one, one, twice("ab"), "step", (0, 1))
        self.pairs(one, one, twice("abc"), "step", (2, 0))

    def test_k_by_k(self):
        # at b they part, but a has a step that leads to none
        self.pairs(PLAIN, PARTS_AT_B, twice("abd"), "step", (0, 1))
        self.pairs(PLAIN, PARTS_AT_B, twice("abc"), "offers", 1)

    def test_steps_are_lean(self):
        one = counting(2)
        word, pairs = alike_or_parted(one, one)
        self.assertEqual((word, len(pairs)), ("alike", 6))
        self.let(one, one, ("alike", pairs))
        for k in range(1, 6):
            self.assertEqual(paper_fault(lets_pairing, one=one, other=one, thing=("alike", pairs[:k] + pairs[k + 1:]))[0], "step")

    def test_by_a_table(self):
        word, pairs = alike_or_parted(ONE, OTHER, table=TABLE)
        self.let(ONE, OTHER, (word, pairs), table=TABLE)
        turned = tuple(sorted((second, first) for first, second in pairs))
        self.let(OTHER, ONE, (word, turned), table=table_turned(TABLE))
        self.pairs(ONE, OTHER, pairs, "offers", 0)


class Rows(Checked):
    def test_let(self):
        self.let(PLAIN, PARTS_AT_A, ("parted", ()))
        self.let(PLAIN, PARTS_AT_B, ("parted", (("a", "x"),)))
        self.let(PLAIN, PARTS_AT_D, ("parted", pairs_of("a.y c.x")), table=((), ()))
        self.let(ONE, BARRED, ("parted", ()), table=TABLE)

    def test_longer_ones_than_the_least(self):
        self.let(PLAIN, PARTS_AT_D, ("parted", pairs_of("a.x b.x c.x")))
        self.let(PLAIN, PARTS_AT_D, ("parted", pairs_of("a.y c.y a.x b.x c.x")))

    def test_beginnings_are_not_asked(self):
        self.let(PARTS_AT_A, PLAIN, ("parted", (("a", "x"), ("b", "x"), ("c", "y"))))
        self.let(PLAIN, PARTS_AT_A, ("parted", (("a", "x"), ("b", "x"), ("c", "y"))))

    def test_row(self):
        self.row(PLAIN, PARTS_AT_D, "a.z", "row", 0)
        self.row(PLAIN, PARTS_AT_D, "b.x", "row", 0)
        self.row(PLAIN, PARTS_AT_D, "a.y c.z c.x", "row", 1)
        self.row(PLAIN, PARTS_AT_D, "a.y c.x d.x", "row", 2)
        self.row(PLAIN, PARTS_AT_B, "a.x b.x", "row", 1)
        self.row(PARTS_AT_B, PLAIN, "a.x b.x", "row", 1)
        self.row(PLAIN, PARTS_AT_A, "a.y", "row", 0)
        self.row(PLAIN, walk("ax>b", "ay>c", ending="end", begin="d"), "a.y", "row", 0)

    def test_row_without_a_call(self):
        table = ((), ((("c", "a"), ("c", "x")),))
        self.let(PLAIN, PLAIN, ("parted", (("a", "y"),)), table=table)
        self.row(PLAIN, PLAIN, "a.y c.x", "row", 1, table=table)
        self.row(PLAIN, PLAIN, "a.y c.y a.y c.x", "row", 3, table=table)

    def test_row_by_calls(self):
        self.row(ONE, GONE, "den.up hill.back", "row", 1, table=TABLE)
        self.row(ONE, OTHER, "cave.rest", "row", 0, table=TABLE)
        self.row(ONE, OTHER, "den.stay", "row", 0)
        self.refused(ONE, OTHER, ("parted", ROW), "same", -1, table=TABLE)

    def test_same(self):
        for words in ("", "a.x", "a.y c.x", "a.x b.x c.y"):
            self.row(PLAIN, PLAIN, words, "same", -1)
        self.row(PLAIN, PARTS_AT_D, "a.x b.x", "same", -1)
        self.row(PLAIN, PARTS_AT_B, "", "same", -1)

    def test_behind_what_is_remembered(self):
        self.row(counting(2), counting(3), "a.y c.y a.y c.y", "same", -1)
        self.let(counting(2), counting(3), ("parted", pairs_of("a.y c.y a.y c.y a.y")))
        self.row(counting(2), counting(3), "a.y c.y a.y c.y a.y c.y", "row", 5)


class JustOne(Checked):
    def test_things_bent(self):
        one = walk("ax>b", ("bx>a", {"test": ("is", ("of", "n"), "<", ("num", 4))}), numbers=(("n", 0, 9, 3),))
        for one, other, table in ((one, one, ((), ())), (PLAIN, PARTS_AT_D, ((), ())), (ONE, BARRED, TABLE)):
            for thing in bent(alike_or_parted(one, other, table=table)):
                self.as_slowly(one, other, thing, table)

    def as_slowly(self, one, other, thing, table):
        word, *fields = slowpairs.pairing_word(one, other, thing, table)
        if word == "let":
            self.assertEqual(lets_pairing(one, other, thing, table=table), thing[0])
        else:
            self.assertEqual(list(paper_fault(lets_pairing, one=one, other=other, thing=thing, table=table)), fields, thing)
        return word

    def test_many(self):
        words = []
        for seed in range(40):
            maker = Maker(seed, lively=True)
            one = maker.story()
            table = ((), ()) if seed % 2 else maker.full_table(one)
            others = [story_called(other, table) for other in (one, maker.edited(one), maker.edited(one))]
            things = []
            for other in others:
                try:
                    things.append(alike_or_parted(one, other, table=table, most=15))
                except NoMore:
                    things.append(("parted", maker.row(one, 3)[0]))
            for other in others:
                lets = {thing[0] for thing in things if self.as_slowly(one, other, thing, table) == "let"}
                self.assertLess(len(lets), 2)
                words += lets
        self.assertGreater(words.count("parted"), 10)
        self.assertGreater(words.count("alike"), 10)


if __name__ == "__main__":
    unittest.main()

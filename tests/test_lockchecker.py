"""Any thing looked at as a lock paper."""

import unittest

from forktales.errors import LackError, NoEnding, NoMore
from forktales.heights import endings_of
from forktales.lockchecker import lets_lock
from forktales.locks import lock_paper
from tests import slowways
from tests.helpers import STRANGE, bent, deep, refusal, same, verdict
from tests.locksamples import KEY, ONE_SHUT, OPEN, TWO_SHUT, TWO_WAYS, UNREACHED, shut, way
from tests.samples import stand
from tests.storymaker import Maker
from tests.waysamples import at, pairs_of

A, B, C = (stand(scene=name) for name in "abc")
ONE_LIFTED = pairs_of("a.y")
ONE_ROW = pairs_of("a.y")
ONE_BAR = (((), A), ((), B))
X, BX = ("a", "x"), ("b", "x")


class Checked(unittest.TestCase):
    def told(self, thing, answer, one=ONE_SHUT, ending="end"):
        found = verdict(lets_lock, story=one, ending=ending, thing=thing)
        self.assertTrue(same(found, answer), (found, thing))
        self.assertTrue(same(slowways.lock_word(one, ending, thing), answer))

    def let(self, thing, many, **named):
        self.told(thing, ("let", many), **named)

    def refused(self, thing, word, place, **named):
        self.told(thing, ("refused", word, place), **named)

    def bar(self, bar, word, place, one=ONE_SHUT, lifted=ONE_LIFTED, row=ONE_ROW):
        self.refused(("lock", lifted, row, bar), word, place, one=one)

    def none(self, bar, word, place, one=UNREACHED):
        self.refused(("none", bar), word, place, one=one)


class Let(Checked):
    def test_none_is_needed(self):
        self.let(("lock", (), pairs_of("a.x b.x"), ()), 0, one=OPEN)

    def test_one(self):
        self.let(("lock", ONE_LIFTED, ONE_ROW, ONE_BAR), 1)
        self.let(("lock", pairs_of("b.z"), pairs_of("a.x b.z"), ONE_BAR), 1)
        self.let(("lock", pairs_of("b.z"), pairs_of("a.x b.x a.x b.z"), ONE_BAR), 1)

    def test_two(self):
        bar = (((), A), ((X,), A), ((X,), B))
        self.let(("lock", (X, BX), (X, BX), bar[:1] + bar[2:]), 2, one=TWO_SHUT)
        # a pair that isn't come to, too: with it the bar is closed as well
        self.let(("lock", (X, BX), (X, BX), bar), 2, one=TWO_SHUT)

    def test_none(self):
        bar = (((), A), ((X,), A), ((X,), B))
        self.let(("none", bar), None, one=UNREACHED)
        # what isn't come to may be there, as long as it is closed
        self.let(("none", (*bar, ((BX,), A), ((BX,), B), ((X, BX), A), ((X, BX), B))[:3]), None, one=UNREACHED)
        more = tuple(sorted([*bar, ((BX,), A), ((X, BX), B), ((X, BX), A)]))
        self.let(("none", more), None, one=UNREACHED)


class Refused(Checked):
    def test_no_ending(self):
        for ending in ("ends", "c"):
            for thing in (("lock", ONE_LIFTED, ONE_ROW, ONE_BAR), None):
                self.assertTrue(same(refusal(lets_lock, NoEnding, "name", story=ONE_SHUT, ending=ending, thing=thing), (ending,)))
        name = "".join(["no", "ne"])
        with self.assertRaises(NoEnding) as caught:
            lets_lock(OPEN, name, None)
        self.assertIs(caught.exception.name, name)
        self.assertIsInstance(caught.exception, LackError)

    def test_shape(self):
        whole = ("lock", ONE_LIFTED, ONE_ROW, ONE_BAR)
        for thing in (*STRANGE, deep((), 30), list(whole), whole[:3], (*whole, ()), ("none",), ("none", ONE_BAR, ()), ["none", ONE_BAR], ("none", list(ONE_BAR)),
                      ("None", ONE_BAR), ("Lock", *whole[1:]), ("none", *whole[1:]), ("lock", ONE_BAR), (None, ONE_BAR), (("none",), ()), ("none", None),
                      ("lock", list(ONE_LIFTED), ONE_ROW, ONE_BAR), ("lock", ONE_LIFTED, list(ONE_ROW), ONE_BAR), ("lock", ONE_LIFTED, ONE_ROW, list(ONE_BAR))):
            self.refused(thing, "shape", -1)

    def test_shape_of_what_is_within(self):
        for bad in ((), ("a",), ("a", "y", "z"), ["a", "y"], "ay", ("a", 0), ("a", "Y"), None):
            for k in (1, 2):
                whole = ["lock", ONE_LIFTED, ONE_ROW, ONE_BAR]
                whole[k] = (*whole[k], bad)
                self.refused(tuple(whole), "shape", -1)
            for pair in (((bad,), A), bad):
                # ahead of all other words
                self.refused(("lock", pairs_of("z.z"), pairs_of("z.z"), ((pairs_of("z.z"), None), pair)), "shape", -1)
                self.refused(("none", ((pairs_of("z.z"), None), pair)), "shape", -1)
        for pair in (([], A), ((), A, A), ((),), [(), A], (None, A), (A, ())):
            self.bar((*ONE_BAR, pair), "shape", -1)
            self.refused(("none", (pair,)), "shape", -1)

    def test_lifted(self):
        for words, k in (("z.z", 0), ("a.z", 0), ("a.y a.z", 1), ("a.y a.y", 1), ("b.z a.y", 1), ("a.x a.y b.b", 2), ("b.y", 0)):
            self.refused(("lock", pairs_of(words), ONE_ROW, ONE_BAR), "lifted", k)
            self.refused(("lock", pairs_of(words), pairs_of("z.z"), ((pairs_of("z.z"), None),)), "lifted", k)

    def test_row(self):
        for words, k in (("z.z", 0), ("b.z", 0), ("a.x b.z", 1), ("a.y c.x", 1), ("a.x b.x a.x b.z a.y", 3)):
            self.bar(ONE_BAR, "row", k, row=pairs_of(words))
            self.bar(((pairs_of("z.z"), None),), "row", k, row=pairs_of(words))

    def test_end(self):
        for words in ("", "a.x", "a.x b.x"):
            self.bar(ONE_BAR, "end", -1, row=pairs_of(words))
            self.bar(((pairs_of("z.z"), None),), "end", -1, row=pairs_of(words))

    def test_laid(self):
        for laid in (pairs_of("a.y"), pairs_of("a.x"), pairs_of("a.x b.x")):
            # too many: as many as lifted has, or more
            self.bar((*ONE_BAR, (laid, A)), "laid", 2)
            self.bar(((laid, None), *ONE_BAR), "laid", 0)
        bar = (((), A), ((X,), B))
        for laid in (pairs_of("z.z"), pairs_of("a.z"), pairs_of("a.x b.x"), pairs_of("c.x")):
            self.bar((*bar, (laid, None)), "laid", 2, one=TWO_SHUT, lifted=(X, BX), row=(X, BX))
        for laid in (pairs_of("z.z"), pairs_of("b.x a.x"), pairs_of("a.x a.x"), pairs_of("a.x z.z")):
            self.none((((), A), (laid, None)), "laid", 1)

    def test_of_lifted_ones_none_no_pair_is_right(self):
        self.refused(("lock", (), pairs_of("a.x b.x"), (((), A),)), "laid", 0, one=OPEN)
        self.refused(("lock", (), pairs_of("a.x b.x"), (((), None),)), "laid", 0, one=OPEN)

    def test_stand_and_lean(self):
        for bad in (*STRANGE, deep((), 28), list(A), A[:6], stand(scene="z"), stand(digit=False), stand(digit=1)):
            self.bar((((), bad), *ONE_BAR), "stand", 0)
            self.bar((*ONE_BAR, ((), bad)), "stand", 2)
        key = (((), at("a")), ((), at("b", 1)))
        self.bar(key, "lean", 1, one=KEY, lifted=pairs_of("a.take"), row=pairs_of("a.take a.use"))
        # ahead of "rise"
        self.bar(key[::-1], "lean", 0, one=KEY, lifted=pairs_of("a.take"), row=pairs_of("a.take a.use"))

    def test_rise_of_pairs(self):
        self.bar(ONE_BAR[::-1], "rise", 1)
        self.bar(ONE_BAR[:1] * 2, "rise", 1)
        self.bar((*ONE_BAR, ONE_BAR[1]), "rise", 2)
        # laid first
        self.none((((), B), ((X,), A), ((X,), A)), "rise", 2)
        self.none((((), A), ((X,), B), ((X,), A)), "rise", 2)
        # ahead of "sooner"
        self.bar((((), C), ((), B)), "sooner", 0)
        self.bar((*ONE_BAR, ((), A)), "rise", 2)

    def test_sooner(self):
        self.bar((*ONE_BAR, ((), C)), "sooner", 2)
        self.bar((((), C),), "sooner", 0)
        self.none((((), A), ((X,), A), ((X,), B), ((X,), C)), "sooner", 3)

    def test_first(self):
        self.bar((), "first", -1)
        self.bar(ONE_BAR[1:], "first", -1)
        self.none((), "first", -1)
        self.none((((X,), A), ((X,), B)), "first", -1)

    def test_step_by_the_number_of_the_choice_there(self):
        self.bar(ONE_BAR[:1], "step", (0, 0))
        bar = (((), A), ((X,), B))
        self.bar(bar[:1], "step", (0, 0), one=TWO_SHUT, lifted=(X, BX), row=(X, BX))
        # behind a choice that is offered and leads to one there
        reordered = way("a w>a !x>b", "b w>b !x>c", "c =end")
        self.bar(bar[:1], "step", (0, 1), one=reordered, lifted=(X, BX), row=(X, BX))
        self.let(("lock", (X, BX), (X, BX), bar), 2, one=reordered)
        # a test that is met, or a choice that is laid, lays no more
        self.none((((), A), ((X,), B)), "step", (1, 0))
        self.none((((), A), ((X,), A)), "step", (0, 0))
        self.none((((), A), ((X,), A), ((X,), B), ((BX,), A)), "step", (3, 0))
        self.none((((), A), ((), B)), "step", (0, 0))

    def test_step_of_a_choice_that_is_barred_with_all_lifted(self):
        own = (("x", (), ("any", ()), False, (("set", "n", ("num", 9)),), ("to", "b")), ("y", (), ("any", ()), False, (), ("back",)),
               ("z", (), ("any", ()), True, (), ("to", "c")))
        one = (((("n", 0, 1, 0)),), (), (), (), (), (("a", (), own, (), None), ("b", (), (), (), "end"), ("c", (), (), (), None)), "a")
        first, last = (stand(scene=name, numbers=(0,)) for name in "ac")
        laid = pairs_of("a.z")
        self.let(("none", (((), first), (laid, last))), None, one=one)
        self.none((((), first),), "step", (0, 2), one=one)
        # a choice once is laid, but not among what was made: that isn't live in c
        self.none((((), first), (laid, stand(scene="c", numbers=(0,), made=laid))), "lean", 1, one=one)

    def test_a_lock_that_is_too_large(self):
        """What is let by is so: with fewer lifted none come to the ending."""
        both = pairs_of("a.y b.z")
        for bar in (ONE_BAR, (*ONE_BAR, (pairs_of("a.y"), B))):
            self.assertEqual(verdict(lets_lock, story=ONE_SHUT, ending="end", thing=("lock", both, ONE_ROW, bar))[0], "refused")
        self.bar(ONE_BAR, "step", (0, 1), lifted=both)

    def test_a_lock_that_is_none_is_no_none(self):
        for one in (ONE_SHUT, OPEN, TWO_SHUT):
            for bar in (ONE_BAR, (((), A),), (((), A), ((X,), B))):
                self.assertEqual(verdict(lets_lock, story=one, ending="end", thing=("none", bar))[0], "refused")


class Bent(unittest.TestCase):
    def compare(self, one, ending, thing):
        found = verdict(lets_lock, story=one, ending=ending, thing=thing)
        self.assertTrue(same(found, slowways.lock_word(one, ending, thing)), (found, thing))
        return found[1] if found[0] == "refused" else "let"

    def test_each_place(self):
        for one in (OPEN, ONE_SHUT, TWO_SHUT, UNREACHED, TWO_WAYS):
            for thing in bent(lock_paper(one, "end")):
                self.compare(one, "end", thing)

    def test_many(self):
        words = []
        for seed in range(120):
            maker = Maker(seed, lively=True)
            one = shut(maker, maker.story())
            for ending in endings_of(one):
                try:
                    paper = lock_paper(one, ending, most=20)
                except NoMore:
                    continue
                for thing in (paper, *self.turned(maker, one, paper)):
                    words.append(self.compare(one, ending, thing))
        for word in ("let", "lifted", "row", "end", "laid", "stand", "first", "step"):
            self.assertGreater(words.count(word), 3, word)

    def turned(self, maker, one, paper):
        bar = paper[-1]
        others = (maker.some(bar, len(bar)), (*bar, ((), maker.stand())), tuple((maker.some(slowways.all_choices(one), 2), here) for _, here in bar))
        for other in others:
            yield (*paper[:-1], other)
            yield ("none", other)
        if paper[0] == "lock":
            _, lifted, row, _ = paper
            yield ("lock", maker.some(slowways.all_choices(one), 3), row, bar)
            yield ("lock", (*lifted, maker.one(slowways.all_choices(one))), row, bar)
            yield ("lock", lifted, row[:-1], bar)
            yield ("none", bar)


if __name__ == "__main__":
    unittest.main()

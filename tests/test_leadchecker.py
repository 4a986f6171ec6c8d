"""Any thing looked at as a LEAD PAPER."""

import unittest

from forktales.leadchecker import lets_lead
from forktales.leadpapers import lead_paper
from tests import slowpairs
from tests.helpers import STRANGE, bent, deep, paper_fault, told
from tests.leadsamples import BARRED, GONE, ONE, OTHER, ROW, STANDS, TABLE, at, other_with
from tests.samples import changed, choice
from tests.storymaker import Maker

LED = ("led", STANDS)
TEST = ("barred", STANDS[:3], "test")
DEEDS = other_with("cave", (choice("rest", ("to", "cave"), deeds=(("set", "n", ("num", 1)), ("draw", "n"), ("set", "n", ("num", 11)))),))


class Checked(unittest.TestCase):
    def let(self, other, thing, row=ROW, table=TABLE):
        self.assertEqual(told(lets_lead, one=ONE, other=other, row=row, thing=thing, table=table), thing[0])

    def refused(self, other, thing, word, at_number, row=ROW, table=TABLE):
        found = paper_fault(lets_lead, one=ONE, other=other, row=row, thing=thing, table=table)
        self.assertEqual(found, (word, at_number), thing)


class Let(Checked):
    def test_both(self):
        self.let(OTHER, LED)
        self.let(BARRED, TEST)
        self.let(GONE, ("barred", STANDS[:4], "there"))
        self.let(DEEDS, ("barred", STANDS[:1], ("deed", 2)))

    def test_the_table_left_out(self):
        paper = ("barred", (at("cave"),), "there")
        self.assertEqual(told(lets_lead, one=ONE, other=OTHER, row=ROW, thing=paper), "barred")
        self.assertEqual(paper_fault(lets_lead, one=ONE, other=OTHER, row=ROW, thing=LED), ("step", 1))

    def test_void_row(self):
        self.let(OTHER, ("led", STANDS[:1]), row=())
        for thing in (("barred", STANDS[:1], "there"), ("barred", (), "there"), ("led", ()), ("led", STANDS[:2])):
            self.refused(OTHER, thing, "shape", -1, row=())

    def test_no_call(self):
        table = (TABLE[0], ((("x", "x"), ("cave", "stay")),))
        self.let(OTHER, ("barred", STANDS[:1], "table"), table=table)
        for why in ("there", "test", None, ("deed", 0), "Table"):
            self.refused(OTHER, ("barred", STANDS[:1], why), "why", -1, table=table)


class Refused(Checked):
    def test_shape(self):
        for thing in (*STRANGE, deep((), 30), (), ("led",), ("led", STANDS, "why"), ("barred", STANDS[:3]), (STANDS, "led"), ["led", STANDS],
                      ("led", list(STANDS)), ("led", None), ("barred", None, "test"), ("barred", list(STANDS[:3]), "test"), ("let", STANDS),
                      ("barred", STANDS[:3], "test", None), (("led",), STANDS), (1, STANDS), ("led", "abcdef")):
            self.refused(OTHER, thing, "shape", -1)
            self.refused(BARRED, thing, "shape", -1)

    def test_how_many_stands(self):
        for k in range(len(STANDS)):
            self.refused(OTHER, ("led", STANDS[:k]), "shape", -1)
        self.refused(OTHER, ("led", (None,) * 7), "shape", -1)
        self.refused(OTHER, ("led", (None,) * 6), "first", -1)
        self.refused(OTHER, ("barred", (), "test"), "shape", -1)
        self.refused(OTHER, ("barred", STANDS, "test"), "shape", -1)
        self.refused(OTHER, ("barred", STANDS[:5], "test"), "why", -1)
        self.refused(OTHER, ("barred", STANDS[:1], "test"), "why", -1)

    def test_first(self):
        # the last is the one story's
        for first in (None, at("peak"), at("cave", seen=1), at("cave", stack=("cave",)), list(at("cave")), changed(at("cave"), digit=False),
                      changed(at("cave"), numbers=(False,)), changed(at("cave"), numbers=[0]), changed(at("cave"), seen=(("peak", False),)),
                      ("den", (), (0,), (), (("hill", 0),), (), 0)):
            self.refused(OTHER, ("led", (first, *STANDS[1:])), "first", -1)
            self.refused(OTHER, ("led", (first,) * 6), "first", -1)
            self.refused(BARRED, ("barred", (first, *STANDS[1:3]), None), "first", -1)

    def test_step(self):
        for j in range(1, 6):
            for bad in (None, STANDS[j][:6], changed(STANDS[j], numbers=(1,)), changed(STANDS[j], numbers=(False,)), list(STANDS[j])):
                self.refused(OTHER, ("led", STANDS[:j] + (bad,) + STANDS[j + 1:]), "step", j)
                self.refused(OTHER, ("led", STANDS[:j] + (bad,) * (6 - j)), "step", j)
        self.refused(BARRED, ("barred", (STANDS[0], STANDS[0], STANDS[0]), "other"), "step", 2)

    def test_a_step_that_is_barred(self):
        self.refused(BARRED, LED, "step", 3)
        self.refused(GONE, LED, "step", 4)
        self.refused(BARRED, ("barred", STANDS[:4], "stack"), "step", 3)
        self.refused(OTHER, LED, "step", 1, table=(TABLE[0], ((("x", "x"), ("cave", "stay")),)))

    def test_why(self):
        for why in ("there", "", "tests", None, 0, ("test",), ["test"], ("deed", 0), "table", STANDS):
            self.refused(BARRED, ("barred", STANDS[:3], why), "why", -1)
        for why in ("deed", 2, ("deed", 1), ("deed", 3), ["deed", 2], ("deed", "2"), ("deed", 2, 2), ("deed", True)):
            self.refused(DEEDS, ("barred", STANDS[:1], why), "why", -1)

    def test_truths_are_no_numbers_in_why(self):
        other = other_with("cave", (choice("rest", ("to", "cave"), deeds=(("set", "n", ("num", 1)), ("set", "n", ("num", -1)))),))
        self.let(other, ("barred", STANDS[:1], ("deed", 1)))
        self.refused(other, ("barred", STANDS[:1], ("deed", True)), "why", -1)

    def test_the_next_choice_is_offered(self):
        self.refused(BARRED, ("barred", STANDS[:1], "test"), "why", -1)
        self.refused(BARRED, ("barred", STANDS[:2], "test"), "why", -1)

    def test_led_of_a_row_that_is_not(self):
        self.refused(BARRED, ("led", STANDS[:3] + STANDS[2:5]), "step", 3)


class ThingsBent(Checked):
    def test_each_place(self):
        for other, paper in ((OTHER, LED), (BARRED, TEST), (DEEDS, ("barred", STANDS[:1], ("deed", 2)))):
            for thing in bent(paper):
                word, *fields = slowpairs.lead_word(other, ROW, thing, TABLE)
                if word == "let":
                    self.let(other, thing)
                else:
                    self.refused(other, thing, *fields)

    def test_many(self):
        for seed in range(30):
            maker = Maker(seed, lively=True)
            one = maker.story()
            others = (one, maker.edited(one), maker.edited(one))
            row, _ = maker.row(one, 4)
            papers = [lead_paper(one, other, row) for other in others]
            for other in others:
                lets = []
                for paper in papers:
                    word, *fields = slowpairs.lead_word(other, row, paper, ((), ()))
                    lets.append(word == "let")
                    if word == "let":
                        self.assertEqual(lets_lead(one, other, row, paper), paper[0])
                    else:
                        self.assertEqual(list(paper_fault(lets_lead, one=one, other=other, row=row, thing=paper)), fields)
                self.assertTrue(any(lets))


if __name__ == "__main__":
    unittest.main()

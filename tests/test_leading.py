"""Rows led over."""

import unittest

from forktales.errors import NoRow, TaleError
from forktales.leading import row_led
from forktales.tables import table_turned
from tests import slowpairs, slowtale
from tests.helpers import refusal, same, told
from tests.leadsamples import BARRED, CALLS, GONE, ONE, OTHER, ROW, STANDS, TABLE, at
from tests.samples import choice, scene, stand, story
from tests.storymaker import Maker


class Led(unittest.TestCase):
    def led(self, one, other, row, answer, **table):
        found = told(row_led, one=one, other=other, row=row, **table)
        self.assertTrue(same(found, answer), found)

    def refused(self, one, other, row, k, why, **table):
        self.assertTrue(same(refusal(row_led, NoRow, "k", "why", one=one, other=other, row=row, **table), (k, why)))

    def test_by_the_table(self):
        self.led(ONE, OTHER, ROW, (CALLS, STANDS), table=TABLE)
        for k in range(len(ROW)):
            self.led(ONE, OTHER, ROW[:k], (CALLS[:k], STANDS[:k + 1]), table=TABLE)

    def test_the_stands_are_the_others(self):
        other = story(scene("a", choices=(choice("b", ("to", "a"), deeds=(("set", "n", ("num", 2)),)),)), numbers=(("n", 1, 3, 1),))
        one = story(scene("a", choices=(choice("b", ("to", "a"), once=True),)), digits=(1,))
        self.led(one, other, (("a", "b"),), ((("a", "b"),), (stand(numbers=(1,)), stand(numbers=(2,)))))
        self.led(other, one, (("a", "b"),), ((("a", "b"),), (stand(), stand(made=(("a", "b"),)))))

    def test_the_table_left_out(self):
        _, stands = told(row_led, one=ONE, other=ONE, row=ROW)
        self.assertTrue(same(stands, slowtale.run(ONE, ROW)[1]))
        self.led(ONE, ONE, ROW, (ROW, stands), table=((), ()))
        self.led(ONE, OTHER, (), ((), (at("cave"),)))
        self.refused(ONE, OTHER, ROW, 0, "there")

    def test_refused_by_the_table(self):
        # what the choice would be called is another one's call by each of these
        for k, table in (
            (0, (TABLE[0], ((("den", "in"), ("cave", "stay")),))),
            (1, (TABLE[0], ((("den", "stay"), ("cave", "rest")), (("den", "up"), ("cave", "in"))))),
            (3, (TABLE[0], ((("den", "stay"), ("cave", "rest")), (("x", "x"), ("peak", "back"))))),
            (0, ((("hill", "den"),), ())),
        ):
            self.refused(ONE, OTHER, ROW, k, "table", table=table)

    def test_refused_by_what_bars_its_call(self):
        self.refused(ONE, BARRED, ROW, 2, "test", table=TABLE)
        self.refused(ONE, GONE, ROW, 3, "there", table=TABLE)
        once = story(scene("cave", choices=(choice("rest", ("to", "cave"), once=True),)), begin="cave")
        self.refused(ONE, once, (("den", "stay"), ("den", "stay"), ("den", "in")), 1, "once", table=TABLE)
        ended = story(scene("cave", ending="end", choices=(choice("rest", ("to", "cave")),)), begin="cave")
        self.refused(ONE, ended, ROW, 0, "ended", table=TABLE)
        deeds = (("set", "n", ("num", 1)), ("draw", "n"))
        drawn = story(scene("cave", choices=(choice("rest", ("to", "cave"), deeds=deeds),)), begin="cave", numbers=(("n", 0, 9, 0),))
        self.refused(ONE, drawn, ROW, 0, ("deed", 1), table=TABLE)
        back = story(scene("cave", choices=(choice("rest", ("back",)),)), begin="cave")
        self.refused(ONE, back, ROW, 0, "stack", table=TABLE)

    def test_the_first_of_both(self):
        table = (TABLE[0], ((("den", "stay"), ("cave", "rest")), (("x", "x"), ("peak", "back"))))
        self.refused(ONE, BARRED, ROW, 2, "test", table=table)
        self.refused(ONE, GONE, ROW, 3, "table", table=table)

    def test_the_error(self):
        with self.assertRaises(TaleError):
            row_led(ONE, OTHER, ROW)


class Back(unittest.TestCase):
    def both_ways(self, one, other, row, table):
        """What holds of a row, led over or refused."""
        calls, stands, why = slowpairs.led(other, row, table)
        k = len(calls)
        if why is not None:
            self.assertTrue(same(refusal(row_led, NoRow, "k", "why", one=one, other=other, row=row, table=table), (k, why)))
        led = told(row_led, one=one, other=other, row=row[:k], table=table)
        self.assertTrue(same(led, (tuple(calls), tuple(stands))))
        back = told(row_led, one=other, other=one, row=led[0], table=table_turned(table))
        self.assertTrue(same(back, (row[:k], slowtale.run(one, row[:k])[1])))
        return why

    def test_the_samples(self):
        self.assertIsNone(self.both_ways(ONE, OTHER, ROW, TABLE))
        self.assertEqual(self.both_ways(ONE, BARRED, ROW, TABLE), "test")
        self.assertEqual(self.both_ways(ONE, GONE, ROW, TABLE), "there")
        self.assertIsNone(self.both_ways(ONE, ONE, ROW, ((), ())))

    def test_many(self):
        found = []
        for seed in range(80):
            maker = Maker(seed, lively=True)
            one = maker.story()
            row, _ = maker.row(one, 8)
            for table in (((), ()), maker.table(), maker.full_table(one)):
                found.append(self.both_ways(one, maker.edited(one), row, table))
        self.assertGreater(found.count(None), 20)
        self.assertGreater(len(found) - found.count(None), 20)

    def test_sixty_choices(self):
        row = (("den", "stay"),) * 60
        self.assertIsNone(self.both_ways(ONE, OTHER, row, TABLE))


if __name__ == "__main__":
    unittest.main()

"""What rows of choices run through, by the story."""

import unittest

from forktales.errors import NoRow, TaleError
from forktales.rowmaking import story_rows
from forktales.rowruns import rows_run
from forktales.treeruns import run
from tests import slowtale
from tests.helpers import refusal, same, told
from tests.samples import TOUR, TOUR_FIRST, at_with, changed, choice, scene, stand, story
from tests.storymaker import Maker
from tests.waysamples import pairs_of

ROWS = story_rows(TOUR)
NEVER = ("any", ())


class Runs(unittest.TestCase):
    def runs(self, row, stands, **named):
        answer = told(run, story=TOUR, row=row, **named)
        self.assertTrue(same(answer, stands), answer)
        self.assertTrue(same(told(rows_run, rows=ROWS, row=row, **named), stands))

    def refused(self, row, k, why, **named):
        for function, first in ((run, {"story": TOUR}), (rows_run, {"rows": ROWS})):
            self.assertTrue(same(refusal(function, NoRow, "k", "why", **first, row=row, **named), (k, why)))

    ROW = pairs_of("hall.enter vault.deep vault.out vault.out hall.pay")
    STANDS = (
        TOUR_FIRST, changed(TOUR_FIRST, scene="vault", stack=("hall",)), changed(TOUR_FIRST, scene="vault", stack=("hall", "vault")),
        changed(TOUR_FIRST, scene="vault", stack=("hall",), numbers=(3, 3), digit=1), changed(TOUR_FIRST, numbers=(3, 0), digit=2),
        changed(TOUR_FIRST, scene="yard", numbers=(1, 0), wheres=at_with("inn road road"), made=(("hall", "pay"),), digit=2),
    )

    def test_void(self):
        self.runs((), (TOUR_FIRST,))
        self.runs((), (TOUR_FIRST,), begin=None, lifted=())
        other = changed(TOUR_FIRST, scene="yard", numbers=(9, 9), digit=1)
        self.runs((), (other,), begin=other)
        self.assertTrue(same(run(story(scene("a")), ()), (stand(),)))

    def test_from_the_first(self):
        self.runs(self.ROW, self.STANDS)
        for k in range(len(self.ROW) + 1):
            self.runs(self.ROW[:k], self.STANDS[:k + 1])

    def test_from_a_stand_amid(self):
        for k in range(len(self.ROW) + 1):
            self.runs(self.ROW[k:], self.STANDS[k:], begin=self.STANDS[k])

    def test_from_a_stand_that_no_row_comes_to(self):
        other = changed(TOUR_FIRST, scene="vault", stack=("yard", "map"), numbers=(0, 9))
        self.runs(pairs_of("vault.out map.look"), (
            other, changed(other, scene="map", stack=("yard",), numbers=(0, 3), seen=(("map", 1),), digit=1),
            changed(other, scene="map", stack=("yard",), numbers=(0, 3), seen=(("map", 2),), digit=1),
        ), begin=other)

    def test_refused(self):
        self.refused(pairs_of("hall.none"), 0, "there")
        self.refused(pairs_of("nowhere.enter"), 0, "there")
        self.refused(pairs_of("hall.enter nowhere.none"), 1, "there")
        self.refused(pairs_of("hall.enter hall.pay"), 1, "there")
        self.refused(pairs_of("hall.enter vault.out hall.pay hall.pay z.z"), 3, "ended")
        self.refused(pairs_of("hall.enter vault.deep vault.deep vault.deep vault.out"), 3, "stack")
        self.refused(pairs_of("map.look map.look map.look map.look"), 2, "test")
        poor = changed(TOUR_FIRST, numbers=(1, 0))
        self.refused(pairs_of("hall.pay"), 0, "test", begin=poor)
        self.refused(pairs_of("hall.pay"), 0, ("deed", 0), begin=poor, lifted=pairs_of("hall.pay"))
        self.refused(pairs_of("hall.pay"), 0, ("deed", 1), begin=changed(TOUR_FIRST, wheres=at_with("road road road")))
        self.refused(pairs_of("hall.pay"), 0, "once", begin=changed(TOUR_FIRST, made=pairs_of("hall.pay")))
        self.refused(pairs_of("vault.out"), 0, "stack", begin=changed(TOUR_FIRST, scene="vault"))

    def test_the_refusal(self):
        with self.assertRaises(NoRow) as caught:
            run(TOUR, pairs_of("hall.none"))
        self.assertIsInstance(caught.exception, TaleError)
        self.assertIs(type(caught.exception.k), int)

    def test_lifted(self):
        row = pairs_of("map.look") * 9
        seen = tuple(changed(TOUR_FIRST, scene="map", seen=(("map", k),)) for k in range(1, 10))
        self.runs(row, (TOUR_FIRST, *seen), lifted=pairs_of("map.look"))
        self.runs(row + row[:1], (TOUR_FIRST, *seen, seen[-1]), lifted=pairs_of("map.look nowhere.none"))
        self.refused(row, 2, "test", lifted=pairs_of("hall.look"))
        lifted_alone = story(scene("a", choices=(choice("x", ("to", "a"), test=NEVER, once=True),)))
        stands = told(run, story=lifted_alone, row=pairs_of("a.x"), lifted=pairs_of("a.x"))
        self.assertTrue(same(stands, (stand(), stand(made=pairs_of("a.x")))))


class Many(unittest.TestCase):
    def outcome(self, function, first, row, begin, lifted):
        try:
            return ("run", function(first, row, begin=begin, lifted=lifted))
        except NoRow as refused:
            return ("refused", refused.k, refused.why)

    def test_many(self):
        """By the story, by its rows and by the document alike, from the first and from any."""
        refusals = 0
        for seed in range(80):
            maker = Maker(seed, lively=seed % 3 > 0)
            one = maker.story()
            rows = story_rows(one)
            lifted = maker.lifted(one)
            row, _ = maker.row(one, 8, lifted)
            row += maker.one(((), (("hall", "open"),), (("zoo", "x"),)))
            for begin in (None, maker.right_stand(one)):
                for raised in ((), lifted):
                    slow = slowtale.run(one, row, begin, raised)
                    refusals += slow[0] == "refused"
                    self.assertTrue(same(self.outcome(run, one, row, begin, raised), slow))
                    self.assertTrue(same(self.outcome(rows_run, rows, row, begin, raised), slow))
        self.assertGreater(refusals, 80)

    def test_beginnings(self):
        for seed in range(40):
            maker = Maker(seed, lively=True)
            one = maker.story()
            row, stands = maker.row(one, 10)
            self.assertTrue(same(run(one, row), stands))
            for k in range(len(row) + 1):
                self.assertTrue(same(run(one, row[:k]), stands[:k + 1]))
                self.assertTrue(same(run(one, row[k:], begin=stands[k]), stands[k:]))


if __name__ == "__main__":
    unittest.main()

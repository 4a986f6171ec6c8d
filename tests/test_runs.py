"""What holds over runs of many stories: saved stands, rows led over and back, stories called otherwise, skeletons, rows made once."""

import unittest

from forktales.allstands import all_stands
from forktales.alikeness import are_alike, lean_stand
from forktales.barring import barred, made
from forktales.callings import stand_called, story_called
from forktales.classes import lean_stands, lean_step
from forktales.errors import NoMore, NoRow
from forktales.heights import endings_of, least_row
from forktales.leadchecker import lets_lead
from forktales.leading import row_led
from forktales.leadpapers import lead_paper
from forktales.offering import offers
from forktales.pairing import alike_or_parted
from forktales.rowmaking import story_rows
from forktales.rowruns import rows_made, rows_offers, rows_run, rows_shown
from forktales.shownlines import shown
from forktales.skeletons import skeleton_of
from forktales.standchecker import is_right_stand
from forktales.standtexts import stand_read, stand_text
from forktales.stepchecker import lets_made
from forktales.tables import choice_call, table_turned
from forktales.treeruns import run
from tests import slowtale
from tests.helpers import same
from tests.storymaker import READERS, Maker

MADE = [(maker, maker.story()) for maker in [Maker(f"runs {k}", lively=True) for k in range(50)]]


class OverRuns(unittest.TestCase):
    def test_each_step_is_the_one_made(self):
        for maker, one in MADE:
            row, _ = maker.row(one, 8)
            stands = run(one, row)
            for k, pair in enumerate(row):
                self.assertIsNone(barred(one, stands[k], pair))
                self.assertTrue(same(made(one, stands[k], pair), stands[k + 1]))
                self.assertIs(lets_made(one, stands[k], pair, stands[k + 1]), True)
                self.assertTrue(is_right_stand(one, stands[k + 1]))

    def test_rows_made_once_tell_the_same(self):
        for maker, one in MADE:
            rows = story_rows(one)
            row, _ = maker.row(one, 8)
            stands = rows_run(rows, row)
            self.assertTrue(same(stands, run(one, row)))
            for k, here in enumerate(stands):
                for reader in (None, *READERS):
                    self.assertTrue(same(rows_shown(rows, here, reader=reader), shown(one, here, reader=reader)))
                self.assertTrue(same(rows_offers(rows, here), offers(one, here)))
                if k < len(row):
                    self.assertTrue(same(rows_made(rows, here, row[k]), stands[k + 1]))

    def test_with_more_lifted_no_row_is_lost(self):
        for maker, one in MADE:
            less = maker.lifted(one)
            row, stands = maker.row(one, 8, less)
            more = tuple(sorted({*less, *maker.lifted(one)}))
            self.assertTrue(same(run(one, row, lifted=more), stands))

    def test_a_stand_saved_and_read_goes_on_as_it(self):
        for maker, one in MADE:
            row, _ = maker.row(one, 8)
            stands = run(one, row)
            for k, here in enumerate(stands):
                read = stand_read(stand_text(here))
                self.assertTrue(same(run(one, row[k:], begin=read), stands[k:]))
                self.assertTrue(same(offers(one, read), offers(one, here)))
                self.assertTrue(same(lean_stand(one, read), lean_stand(one, here)))

    def test_lean_ones_run_alike(self):
        for maker, one in MADE:
            row, _ = maker.row(one, 8)
            stands = run(one, row)
            lean = lean_stand(one, stands[0])
            for k, pair in enumerate(row):
                lean = lean_step(one, lean, pair)
                self.assertTrue(same(lean, lean_stand(one, stands[k + 1])))
                self.assertIs(are_alike(one, lean, stands[k + 1]), True)
            self.assertTrue(are_alike(one, run(one, row, begin=lean_stand(one, stands[0]))[-1], stands[-1]))

    def test_least_rows_run_to_their_endings(self):
        come_to = 0
        for _, one in MADE:
            for ending in endings_of(one):
                try:
                    row = least_row(one, ending, most=60)
                except NoMore:
                    continue
                if row is not None:
                    come_to += 1
                    self.assertEqual(slowtale.scene_of(one, run(one, row)[-1][0])[4], ending)
        self.assertGreater(come_to, 5)

    def test_what_is_led_over_and_back_is_itself(self):
        led = 0
        for maker, one in MADE:
            other, table = maker.edited(one), ((), ())
            if maker.one((True, False)):
                table = maker.full_table(other)
                other = story_called(other, table)
            row, stands = maker.row(one, 6)
            try:
                calls, others = row_led(one, other, row, table=table)
            except NoRow as refused:
                first = row[:refused.k]
                calls, others = row_led(one, other, first, table=table)
                self.assertEqual(lead_paper(one, other, row, table=table), ("barred", others, refused.why))
                row, stands = first, stands[:refused.k + 1]
            else:
                led += 1
                self.assertEqual(lets_lead(one, other, row, ("led", others), table=table), "led")
            self.assertTrue(same(run(other, calls), others))
            self.assertTrue(same(row_led(other, one, calls, table=table_turned(table)), (row, stands)))
        self.assertGreater(led, 20)

    def test_a_story_called_otherwise_runs_to_the_stands_called(self):
        for maker, one in MADE:
            table = maker.full_table(one)
            other = story_called(one, table)
            row, stands = maker.row(one, 6)
            calls = tuple(choice_call(table, pair) for pair in row)
            self.assertTrue(same(run(other, calls), tuple(stand_called(one, here, table) for here in stands)))
            self.assertTrue(same(story_called(other, table_turned(table)), one))
            try:
                self.assertEqual(alike_or_parted(one, other, table=table, most=60)[0], "alike")
                found = tuple(sorted((stand_called(one, here, table), height) for here, height in all_stands(one, most=60)))
                self.assertTrue(same(all_stands(other, most=60), found))
                self.assertEqual(len(lean_stands(one, most=60)), len(lean_stands(other, most=60)))
            except NoMore:
                pass

    def test_a_skeleton_has_the_same_rows(self):
        for maker, one in MADE:
            row, stands = maker.row(one, 8)
            bare = run(skeleton_of(one), row)
            for here, other in zip(stands, bare):
                self.assertTrue(same((*here[:4], *here[5:]), (*other[:4], *other[5:])))
                self.assertEqual([offer[:2] for offer in offers(one, here)], [offer[:2] for offer in offers(skeleton_of(one), other)])


if __name__ == "__main__":
    unittest.main()

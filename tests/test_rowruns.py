"""What is shown, offered, made and run by ROWS MADE ONCE alone."""

import unittest

from forktales.errors import NoChoice, NoRow, TaleError
from forktales.rowmaking import story_rows
from forktales.rowruns import rows_made, rows_offers, rows_run, rows_shown
from tests import slowtale
from tests.helpers import refusal, same, told
from tests.samples import TOUR, TOUR_FIRST, at_with, changed, choice, largest, scene, stand, story
from tests.storymaker import Maker

ROWS = story_rows(TOUR)
NEVER = ("any", ())


class Single(unittest.TestCase):
    def test_shown(self):
        self.assertTrue(same(told(rows_shown, rows=ROWS, stand=TOUR_FIRST), ("The hall, lake",)))
        self.assertTrue(same(told(rows_shown, rows=ROWS, stand=TOUR_FIRST, reader="pia"), ("The hall, lake", "psst 3")))
        self.assertTrue(same(told(rows_shown, rows=ROWS, stand=TOUR_FIRST, reader=None), ("The hall, lake",)))

    def test_offers(self):
        two = (("hall", "enter", ("Enter for 1",)),)
        at = changed(TOUR_FIRST, numbers=(1, 0), seen=(("map", 9),))
        self.assertTrue(same(told(rows_offers, rows=ROWS, stand=at), two))
        self.assertTrue(same(told(rows_offers, rows=ROWS, stand=at, lifted=(("map", "look"),)), (*two, ("map", "look", ()))))
        self.assertTrue(same(told(rows_offers, rows=ROWS, stand=changed(at, scene="yard")), ()))

    def test_made(self):
        behind = changed(TOUR_FIRST, scene="yard", numbers=(1, -1), wheres=at_with("inn road road"), made=(("hall", "pay"),))
        self.assertTrue(same(told(rows_made, rows=ROWS, stand=TOUR_FIRST, choice=("hall", "pay")), behind))
        for parts, pair, why, lifted in (
            ({"scene": "yard"}, ("hall", "pay"), "ended", ()),
            ({"scene": "vault"}, ("hall", "pay"), "there", ()),
            ({"made": (("hall", "pay"),)}, ("hall", "pay"), "once", (("hall", "pay"),)),
            ({"numbers": (1, 0)}, ("hall", "pay"), "test", ()),
            ({"numbers": (1, 0)}, ("hall", "pay"), ("deed", 0), (("hall", "pay"),)),
            ({"wheres": at_with("=bob lake lake")}, ("hall", "pay"), ("deed", 1), ()),
            ({"scene": "vault"}, ("vault", "out"), "stack", ()),
            ({"stack": ("map",) * 3}, ("hall", "enter"), "stack", ()),
        ):
            at = changed(TOUR_FIRST, **parts)
            found = refusal(rows_made, NoChoice, "choice", "why", rows=ROWS, stand=at, choice=pair, lifted=lifted)
            self.assertTrue(same(found, (pair, why)), found)

    def test_the_very_choice(self):
        pair = ("hall", "".join(["no", "ne"]))
        with self.assertRaises(NoChoice) as caught:
            rows_made(ROWS, TOUR_FIRST, pair)
        self.assertIs(caught.exception.choice, pair)
        self.assertIsInstance(caught.exception, TaleError)


class Runs(unittest.TestCase):
    def run_through(self, row, **named):
        stands = told(rows_run, rows=ROWS, row=row, **named)
        self.assertIs(type(stands), tuple)
        return stands

    def test_void(self):
        self.assertTrue(same(self.run_through(()), (TOUR_FIRST,)))
        self.assertTrue(same(self.run_through((), begin=None, lifted=()), (TOUR_FIRST,)))
        at = changed(TOUR_FIRST, scene="vault", digit=2)
        self.assertTrue(same(self.run_through((), begin=at), (at,)))

    def test_from_the_first(self):
        row = (("hall", "enter"), ("vault", "deep"), ("vault", "out"), ("vault", "out"), ("hall", "pay"))
        stands = self.run_through(row)
        self.assertEqual([at[0] for at in stands], ["hall", "vault", "vault", "vault", "hall", "yard"])
        self.assertEqual([at[1] for at in stands], [(), ("hall",), ("hall", "vault"), ("hall",), (), ()])
        self.assertEqual([at[2] for at in stands], [(3, -1)] * 3 + [(3, 3), (3, 0), (1, 0)])
        self.assertEqual([at[6] for at in stands], [0, 0, 0, 1, 2, 2])
        for k in range(len(row) + 1):
            self.assertTrue(same(self.run_through(row[:k]), stands[:k + 1]))
            self.assertTrue(same(self.run_through(row[k:], begin=stands[k]), stands[k:]))

    def test_refused_at_the_first_that_is_barred(self):
        for row, k, why in (
            ((("hall", "none"),), 0, "there"),
            ((("hall", "enter"), ("vault", "out"), ("hall", "pay"), ("hall", "pay"), ("z", "z")), 3, "ended"),
            ((("hall", "enter"), ("vault", "deep"), ("vault", "deep"), ("vault", "deep")), 3, "stack"),
            ((("map", "look"), ("map", "look"), ("map", "look")), 2, "test"),
        ):
            found = refusal(rows_run, NoRow, "k", "why", rows=ROWS, row=row)
            self.assertTrue(same(found, (k, why)))
        at = changed(TOUR_FIRST, numbers=(9, 0), wheres=at_with("inn inn inn"))
        found = refusal(rows_run, NoRow, "k", "why", rows=ROWS, row=(("hall", "pay"),), begin=at, lifted=())
        self.assertTrue(same(found, (0, ("deed", 1))))

    def test_lifted(self):
        row = (("map", "look"),) * 9
        self.assertEqual(self.run_through(row, lifted=(("map", "look"),))[-1], changed(TOUR_FIRST, scene="map", seen=(("map", 9),)))
        self.assertEqual(refusal(rows_run, NoRow, "k", rows=ROWS, row=row, lifted=(("hall", "look"),)), (2,))


class Alike(unittest.TestCase):
    """By rows all is what is told by the story."""

    def choice_of_rows(self, rows, at, pair, lifted):
        try:
            return ("made", rows_made(rows, at, pair, lifted=lifted))
        except NoChoice as refused:
            self.assertIs(refused.choice, pair)
            return ("barred", refused.why)

    def run_of_rows(self, rows, row, begin, lifted):
        try:
            return ("run", rows_run(rows, row, begin=begin, lifted=lifted))
        except NoRow as refused:
            return ("refused", refused.k, refused.why)

    def compare(self, one, rows, at, lifted):
        for reader in (None, "ann", "pia", "nobody"):
            self.assertTrue(same(rows_shown(rows, at, reader=reader), slowtale.shown(one, at, reader)))
        self.assertTrue(same(rows_offers(rows, at, lifted=lifted), slowtale.offers(one, at, lifted)))
        for pair in (*slowtale.choices_there(one, at[0]), ("hall", "open"), ("nowhere", "none")):
            self.assertTrue(same(self.choice_of_rows(rows, at, pair, lifted), slowtale.make(one, at, pair, lifted)))

    def test_many(self):
        for seed in range(40):
            maker = Maker(seed, lively=seed % 2 == 0)
            one = maker.story()
            rows = story_rows(one)
            for _ in range(3):
                at, lifted = maker.right_stand(one), maker.lifted(one)
                self.compare(one, rows, at, lifted)
                row, _ = maker.row(one, 6, lifted)
                for begin in (None, at):
                    self.assertTrue(same(self.run_of_rows(rows, row, begin, lifted), slowtale.run(one, row, begin, lifted)))
                    self.assertTrue(same(self.run_of_rows(rows, row, begin, ()), slowtale.run(one, row, begin)))

    def test_the_largest(self):
        one = largest()
        maker = Maker("largest")
        for _ in range(3):
            self.compare(one, story_rows(one), maker.right_stand(one), maker.lifted(one))

    def test_bare_stories(self):
        bare = story(scene("a"))
        self.compare(bare, story_rows(bare), stand(), ())
        never = story(scene("a", choices=(choice("c", ("to", "a"), test=NEVER),)))
        self.compare(never, story_rows(never), stand(), (("a", "c"),))


if __name__ == "__main__":
    unittest.main()

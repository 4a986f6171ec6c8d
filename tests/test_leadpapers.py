"""LEAD PAPERS."""

import unittest

from forktales.leadchecker import lets_lead
from forktales.leadpapers import lead_paper
from tests import slowpairs
from tests.helpers import same, told
from tests.leadsamples import BARRED, GONE, ONE, OTHER, ROW, STANDS, TABLE, at
from tests.storymaker import Maker


class Papers(unittest.TestCase):
    def paper(self, one, other, row, paper, **table):
        found = told(lead_paper, one=one, other=other, row=row, **table)
        self.assertTrue(same(found, paper), found)
        self.assertEqual(lets_lead(one, other, row, found, **table), paper[0])

    def test_led(self):
        for k in range(len(ROW) + 1):
            self.paper(ONE, OTHER, ROW[:k], ("led", STANDS[:k + 1]), table=TABLE)

    def test_void_row(self):
        self.paper(ONE, OTHER, (), ("led", STANDS[:1]), table=TABLE)
        self.paper(ONE, OTHER, (), ("led", STANDS[:1]))

    def test_barred(self):
        self.paper(ONE, BARRED, ROW, ("barred", STANDS[:3], "test"), table=TABLE)
        self.paper(ONE, BARRED, ROW[:3], ("barred", STANDS[:3], "test"), table=TABLE)
        self.paper(ONE, BARRED, ROW[:2], ("led", STANDS[:3]), table=TABLE)
        self.paper(ONE, GONE, ROW, ("barred", STANDS[:4], "there"), table=TABLE)

    def test_barred_at_once(self):
        self.paper(ONE, OTHER, ROW, ("barred", (at("cave"),), "there"))
        self.paper(ONE, OTHER, ROW, ("barred", (at("cave"),), "table"), table=(TABLE[0], ((("x", "x"), ("cave", "stay")),)))

    def test_many(self):
        words = []
        for seed in range(60):
            maker = Maker(seed, lively=True)
            one = maker.story()
            other = maker.edited(maker.edited(one))
            row, _ = maker.row(one, 6)
            for table in (((), ()), maker.table()):
                _, stands, why = slowpairs.led(other, row, table)
                self.paper(one, other, row, ("led", tuple(stands)) if why is None else ("barred", tuple(stands), why), table=table)
                words.append(why is None)
        self.assertGreater(words.count(True), 10)
        self.assertGreater(words.count(False), 10)


if __name__ == "__main__":
    unittest.main()

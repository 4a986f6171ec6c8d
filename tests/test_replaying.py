"""Logs replayed: the same house; the first refusal."""

import unittest

from forktales.errors import LackError, NoChoice, NoReader, NoRow, NoStep, NoStory, TaleError
from forktales.houselogs import is_log
from forktales.houses import House
from forktales.replaying import replayed
from forktales.savedreadings import read_saved
from forktales.savedtexts import saved_text
from tests import slowhouse
from tests.helpers import same, told
from tests.houseplay import Player
from tests.housesamples import FIELDS, GO, HALL, HOME, SHUT, TURN, done, state_of
from tests.samples import LOG, SMALL, VOID, scene, story

NO_TABLE = ((), ())
FIRST = ("house", HALL, ("ann", "tom"), "turns")
DEEDS = (("come", "pia"), ("pick", "ann", TURN), ("pick", "tom", GO), ("edit", HALL, NO_TABLE), ("back", 1), ("go", "ann"), ("pick", "tom", TURN))


class Replayed(unittest.TestCase):
    def replay(self, log):
        house = told_house(log)
        self.assertIs(type(house), House)
        self.assertTrue(same(house.log(), log))
        self.assertTrue(same(state_of(house), slowhouse.told_of(log)))
        return house

    def refused(self, log, error, *fields):
        self.assertIs(is_log(log), True)
        for call in (lambda: replayed(log), lambda: replayed(log=log)):
            with self.assertRaises(error) as caught:
                call()
            self.assertIs(type(caught.exception), error)
            self.assertTrue(same(tuple(getattr(caught.exception, field) for field in FIELDS[error.__name__]), fields))


def told_house(log):
    """The house that is told, by its place and by its name alike."""
    house = replayed(log)
    if house != replayed(log=log) or house is replayed(log):
        raise AssertionError(log)
    return house


class Logs(Replayed):
    def test_of_no_deed(self):
        for way in ("turns", "votes", "any"):
            for readers in ((), ("ann",), ("ann", "tom")):
                self.assertEqual(self.replay((("house", HALL, readers, way),)), House(HALL, readers=readers, way=way))

    def test_each_beginning(self):
        for k in range(len(DEEDS) + 1):
            house = self.replay((FIRST, *DEEDS[:k]))
            other = House(HALL, readers=("ann", "tom"))
            other.do_all(DEEDS[:k])
            self.assertEqual(house, other)

    def test_it_goes_on_as_the_other(self):
        house = self.replay((FIRST, *DEEDS))
        other = replayed(house.log())
        for row in (("pick", "pia", GO), ("pick", "tom", HOME), ("back", 2), ("come", "ann")):
            self.assertTrue(same(done(house, row), done(other, row)))
            self.assertTrue(same(state_of(house), state_of(other)))
        # nor have both anything in common
        self.assertTrue(same(house.undo(), ("come", "ann")))
        self.assertNotEqual(house, other)
        self.assertEqual(other.readers_now(), ("tom", "pia", "ann"))

    def test_a_row_out(self):
        self.refused((FIRST, *DEEDS[:1], *DEEDS[2:]), NoChoice, GO, "turn")
        self.refused((FIRST, *DEEDS[:2], *DEEDS[3:5], ("back", 1)), NoStep, 1)
        self.refused((FIRST, ("pick", "ann", TURN), ("go", "pia")), NoReader, "pia")
        self.replay((FIRST, *DEEDS[:3], *DEEDS[4:]))

    def test_a_row_twice(self):
        self.refused((FIRST, DEEDS[0], *DEEDS), NoReader, "pia")
        self.refused((FIRST, *DEEDS[:2], *DEEDS[1:]), NoChoice, TURN, "turn")
        self.replay((FIRST, *DEEDS[:4], *DEEDS[3:]))

    def test_strange_ones_amid(self):
        self.refused((FIRST, ("come", "pia"), ("edit", VOID, NO_TABLE), ("come", "pia")), NoStory, "begin", -1)
        self.refused((FIRST, ("pick", "ann", TURN), ("edit", story(scene("a")), NO_TABLE)), NoRow, 0, "there")
        self.refused((FIRST, ("pick", "ann", TURN), ("edit", HALL, ((("z", "a"),), ()))), NoRow, 0, "table")
        self.refused((FIRST, ("pick", "ann", SHUT)), NoChoice, SHUT, "test")
        self.refused((FIRST, ("vote", "ann", GO)), NoChoice, GO, "turns")
        self.refused((FIRST, ("back", -10 ** 59)), NoStep, -10 ** 59)

    def test_the_first_refusal(self):
        bad = (("go", "zoe"), ("come", "ann"), ("back", 1))
        self.refused((FIRST, *bad), NoReader, "zoe")
        self.refused((FIRST, *bad[1:]), NoReader, "ann")
        self.refused((FIRST, *bad[2:]), NoStep, 1)

    def test_that_of_the_house_itself_ahead_of_all(self):
        for one, word, at in ((VOID, "begin", -1), (SMALL, "begin", -1), (story(scene("a", woven=("z",))), "scene", (0, 0))):
            self.refused((("house", one, (), "any"), ("go", "zoe")), NoStory, word, at)
        self.refused(LOG, NoStory, "begin", -1)

    def test_bases(self):
        with self.assertRaises(TaleError):
            replayed(LOG)
        with self.assertRaises(LackError):
            replayed((FIRST, ("go", "zoe")))


class Many(Replayed):
    def test_made_houses(self):
        """Saved, read and replayed it is an equal house that goes on alike."""
        for seed in range(40):
            player = Player(f"saved {seed}")
            house = House(player.story, readers=player.readers, way=player.way)
            for _ in range(10):
                done(house, player.row(house))
            log = house.log()
            self.assertIs(told(is_log, thing=log), True)
            other = replayed(log)
            text = saved_text(log)
            self.assertTrue(same(read_saved(text), log))
            self.assertEqual(saved_text(read_saved(text)), text)
            third = replayed(read_saved(text))
            for _ in range(6):
                self.assertTrue(house == other == third)
                self.assertTrue(same(state_of(house), state_of(other)))
                self.assertTrue(same(state_of(house), state_of(third)))
                row = player.row(house)
                found = done(house, row)
                self.assertTrue(same(found, done(other, row)))
                self.assertTrue(same(found, done(third, row)))

    def test_rows_out_and_twice(self):
        refusals = 0
        for seed in range(30):
            player = Player(f"out {seed}")
            house = House(player.story, readers=player.readers, way=player.way)
            for _ in range(10):
                done(house, player.row(house))
            log = house.log()
            for k in range(1, len(log)):
                for bent in (log[:k] + log[k + 1:], log[:k] + log[k:k + 1] + log[k:]):
                    refusals += self.alike(bent)
        self.assertGreater(refusals, 40)

    def alike(self, log):
        """Replayed, and told a second way; told is whether it is refused."""
        try:
            expected = slowhouse.told_of(log)
        except slowhouse.Refused as refused:
            name, *fields = refused.args
            with self.assertRaises((TaleError, LackError)) as caught:
                replayed(log)
            self.assertEqual(type(caught.exception).__name__, name)
            self.assertTrue(same([getattr(caught.exception, field) for field in FIELDS[name]], fields))
            return True
        self.assertTrue(same(state_of(replayed(log)), expected))
        return False


if __name__ == "__main__":
    unittest.main()

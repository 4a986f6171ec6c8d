"""Logs, houses that are equal, houses as texts, deeds undone, rows of deeds, walks."""

import unittest

from forktales.errors import LackError, NoChoice, NoReader, NoRow, NoStep, NoStory, TaleError
from forktales.houselogs import is_log
from forktales.houses import House
from tests import slowhouse
from tests.helpers import STRANGE, same
from tests.houseplay import Player
from tests.housesamples import FIELDS, GO, HALL, HOME, OUT, SHUT, TURN, WAIT, done, state_of
from tests.samples import VOID

NO_TABLE = ((), ())
# Ann picks by turns, then pia; pia goes, comes again; an edit; back.
DEEDS = (
    ("come", "pia"), ("pick", "ann", TURN), ("pick", "pia", GO), ("go", "pia"), ("come", "pia"), ("edit", HALL, NO_TABLE), ("pick", "ann", HOME), ("back", 2),
)


def house_with(deeds, *, readers=("ann",), way="turns", one=HALL):
    house = House(one, readers=readers, way=way)
    for row in deeds:
        if done(house, row)[0] != "told":
            raise AssertionError(row)
    return house


class Logs(unittest.TestCase):
    def test_told(self):
        for k in range(len(DEEDS) + 1):
            log = house_with(DEEDS[:k]).log()
            self.assertTrue(same(log, (("house", HALL, ("ann",), "turns"), *DEEDS[:k])))
            self.assertIs(is_log(log), True)

    def test_the_story_at_first(self):
        house = House(HALL, readers=("ann",), way="any")
        other = ((("n", 0, 9, 0),), *HALL[1:])
        house.edit(other)
        self.assertTrue(same(house.log(), (("house", HALL, ("ann",), "any"), ("edit", other, NO_TABLE))))

    def test_what_was_made_by_votes_is_no_row(self):
        house = house_with((("vote", "ann", GO), ("vote", "ann", OUT)), way="votes")
        self.assertEqual(len(house.log()), 3)

    def test_refused_deeds_are_not_noted(self):
        house = House(HALL, readers=("ann",))
        for row in (("come", "ann"), ("go", "tom"), ("pick", "ann", SHUT), ("vote", "ann", GO), ("edit", VOID, NO_TABLE), ("back", 1)):
            self.assertEqual(done(house, row)[0], "refused")
        self.assertEqual(house.log(), (("house", HALL, ("ann",), "turns"),))


class Equal(unittest.TestCase):
    def alike(self, one, other, truth):
        for first, second in ((one, other), (other, one)):
            self.assertIs(first == second, truth)
            self.assertIs(first != second, not truth)

    def test_the_same_logs(self):
        for k in range(len(DEEDS) + 1):
            for j in range(len(DEEDS) + 1):
                self.alike(house_with(DEEDS[:k]), house_with(DEEDS[:j]), k == j)
        house = house_with(DEEDS)
        self.alike(house, house, True)

    def test_other_beginnings(self):
        house = House(HALL, readers=("ann",), way="any")
        for other in (House(HALL, readers=("ann",)), House(HALL, readers=("ann",), way="votes"), House(HALL, way="any"),
                      House(HALL, readers=("tom",), way="any"), House(HALL, readers=("ann", "tom"), way="any"),
                      House((*HALL[:4], (1,), *HALL[5:]), readers=("ann",), way="any")):
            self.alike(house, other, False)
        self.alike(house, House(HALL, readers=("ann",), way="any"), True)

    def test_other_deeds_to_the_same_end(self):
        """Just by their logs, though all else is the same."""
        one = house_with((("pick", "ann", TURN), ("back", 1)), way="any")
        other = house_with((("pick", "ann", WAIT), ("back", 1)), way="any")
        self.assertEqual(one.stand_now(), other.stand_now())
        self.alike(one, other, False)
        come = house_with((("come", "tom"), ("come", "pia"), ("go", "tom"), ("go", "pia")))
        self.alike(come, house_with((("come", "pia"), ("come", "tom"), ("go", "tom"), ("go", "pia"))), False)

    def test_odd_things(self):
        house = House(HALL)
        for thing in (*STRANGE, house.log(), str(house), HALL, {}, {"a": 1}, object(), House):
            self.alike(house, thing, False)

    def test_in_a_list(self):
        house = house_with(DEEDS)
        self.assertEqual([house_with(()), house_with(DEEDS), 1].index(house), 1)
        self.assertIn(house, (1, house_with(DEEDS)))


class Texts(unittest.TestCase):
    def test_three_words(self):
        self.assertEqual(str(House(HALL)), "a 0 -")
        self.assertEqual(str(House(HALL, readers=("ann", "bob"))), "a 0 ann,bob")
        self.assertEqual(str(house_with(DEEDS)), "a 1 ann,pia")
        self.assertEqual(str(house_with(DEEDS[:3])), "b 2 ann,pia")
        self.assertEqual(str(house_with(DEEDS[:4])), "b 2 ann")
        self.assertEqual(str(house_with((("come", "zoe"), ("come", "bob")), readers=("pia",))), "a 0 pia,zoe,bob")
        long = house_with((("pick", "ann", WAIT),) * 12, way="any")
        self.assertEqual((str(long), len(long)), ("a 12 ann", 12))

    def test_len(self):
        for k, many in enumerate((0, 0, 1, 2, 2, 2, 2, 3, 1)):
            self.assertEqual(len(house_with(DEEDS[:k])), many)


class Undone(unittest.TestCase):
    def test_each_deed(self):
        house = house_with(DEEDS)
        for k in range(len(DEEDS), 0, -1):
            self.assertTrue(same(house.undo(), DEEDS[k - 1]))
            other = house_with(DEEDS[:k - 1])
            self.assertEqual(house, other)
            self.assertTrue(same(state_of(house), state_of(other)))
        self.nothing_to_undo(house)

    def nothing_to_undo(self, house):
        log, before = house.log(), state_of(house)
        with self.assertRaises(NoStep) as caught:
            house.undo()
        self.assertTrue(same(caught.exception.number, 0))
        self.assertIsInstance(caught.exception, LackError)
        self.assertTrue(same((house.log(), state_of(house)), (log, before)))

    def test_of_none(self):
        self.nothing_to_undo(House(HALL))
        house = house_with(DEEDS[:1])
        house.undo()
        self.nothing_to_undo(house)

    def test_votes(self):
        votes = (("vote", "ann", TURN), ("vote", "ann", GO), ("vote", "tom", TURN), ("vote", "tom", HOME), ("go", "ann"), ("vote", "tom", TURN), ("come", "ann"))
        for k in range(len(votes)):
            house = house_with(votes[:k + 1], readers=("ann", "tom"), way="votes")
            self.assertTrue(same(house.undo(), votes[k]))
            self.assertTrue(same(state_of(house), state_of(house_with(votes[:k], readers=("ann", "tom"), way="votes"))))

    def test_a_reader_that_went_has_its_sight_again(self):
        house = house_with((("pick", "ann", TURN), ("come", "tom")), way="any")
        sight = house.sight_of("ann")
        house.go("ann")
        house.undo()
        self.assertTrue(same(house.sight_of("ann"), sight))

    def test_and_on(self):
        house = house_with(DEEDS[:3])
        house.undo()
        house.pick("pia", WAIT)
        self.assertEqual(house, house_with((*DEEDS[:2], ("pick", "pia", WAIT))))


class DoneAll(unittest.TestCase):
    def test_lists_and_tuples(self):
        for kind in (list, tuple):
            for k in range(len(DEEDS) + 1):
                house = House(HALL, readers=("ann",))
                self.assertTrue(same(house.do_all(kind(DEEDS[:k])), k))
                self.assertTrue(same(state_of(house), state_of(house_with(DEEDS[:k]))))
                self.assertEqual(house, house_with(DEEDS[:k]))
                self.assertTrue(same(house.do_all(deeds=kind(DEEDS[k:]), keep=True), len(DEEDS) - k))
                self.assertEqual(house, house_with(DEEDS))

    def test_rows_that_are_lists_are_noted_as_tuples(self):
        house = House(HALL, readers=("ann",))
        self.assertEqual(house.do_all([list(row) for row in DEEDS]), len(DEEDS))
        self.assertTrue(same(house.log(), house_with(DEEDS).log()))

    def test_void(self):
        house = House(HALL)
        for deeds in ((), []):
            self.assertTrue(same(house.do_all(deeds), 0))
            self.assertTrue(same(house.do_all(deeds, keep=True), 0))
        self.assertEqual(house.log(), (("house", HALL, (), "turns"),))

    def test_a_list_is_as_it_was(self):
        deeds = list(DEEDS)
        house_with(()).do_all(deeds)
        self.assertEqual(deeds, list(DEEDS))

    REFUSED = (
        (("come", "ann"), NoReader), (("go", "zoe"), NoReader), (("pick", "zoe", GO), NoReader), (("pick", "ann", SHUT), NoChoice),
        (("vote", "ann", GO), NoChoice), (("edit", VOID, NO_TABLE), NoStory), (("edit", HALL, ((("z", "a"),), ())), NoRow), (("back", 9), NoStep),
    )

    def refused(self, house, deeds, error, fields, keep):
        with self.assertRaises(error) as caught:
            house.do_all(deeds, **keep)
        self.assertIs(type(caught.exception), error)
        self.assertTrue(same(tuple(getattr(caught.exception, field) for field in FIELDS[error.__name__]), fields))
        self.assertEqual(house.walks(), 0)

    def test_one_refused_amid(self):
        """All is as it was ahead of the first."""
        ahead = (("come", "pia"), ("pick", "ann", TURN))
        for bad, error in self.REFUSED:
            for begin in ((), (("come", "tom"), ("come", "bob"), ("go", "bob"))):
                fields = done(house_with((*begin, *ahead)), bad)[2:]
                house = house_with(begin)
                for keep in ({}, {"keep": False}):
                    for deeds in ((*ahead, bad, ("come", "zoe")), [*ahead, bad]):
                        self.refused(house, deeds, error, fields, keep)
                        self.assertTrue(same(state_of(house), state_of(house_with(begin))))
                        self.assertEqual(house, house_with(begin))

    def test_those_ahead_stay_where_keep_is_true(self):
        ahead = [("come", "pia"), ("pick", "ann", TURN), ("go", "pia")]
        for bad, error in self.REFUSED:
            for k in range(len(ahead) + 1):
                if done(house_with(ahead[:k]), bad)[0] == "told":
                    continue
                house = House(HALL, readers=("ann",))
                self.refused(house, [*ahead[:k], bad, *ahead[k:]], error, done(house_with(ahead[:k]), bad)[2:], {"keep": True})
                self.assertEqual(house, house_with(ahead[:k]))
                self.assertTrue(same(state_of(house), state_of(house_with(ahead[:k]))))

    def test_goes_on_behind_a_refusal(self):
        house = House(HALL, readers=("ann",))
        for keep in ({}, {"keep": True}):
            self.refused(house, [("come", "ann")], NoReader, ("ann",), keep)
        self.assertEqual(house.do_all(DEEDS), len(DEEDS))
        self.assertEqual(house, house_with(DEEDS))
        self.assertEqual(house.undo(), DEEDS[-1])

    def test_the_very_things(self):
        name = "".join(["no", "ne"])
        with self.assertRaises(NoReader) as caught:
            House(HALL).do_all([("go", name)])
        self.assertIs(caught.exception.name, name)

    def test_walks(self):
        house = House(HALL, readers=("ann",))
        self.assertTrue(same(house.walks(), 0))
        house.do_all(DEEDS)
        self.assertTrue(same(house.walks(), 0))
        for keep in (True, False):
            for bad, error in self.REFUSED:
                with self.assertRaises((TaleError, LackError)):
                    house.do_all([bad, ("come", "ann")], keep=keep)
                self.assertTrue(same(house.walks(), 0))


class Many(unittest.TestCase):
    def test_as_slowly(self):
        """Each deed of made houses, refused ones too: what it tells, and all that the house tells then."""
        words = []
        for seed in range(80):
            player = Player(seed)
            house = House(player.story, readers=player.readers, way=player.way)
            slow = slowhouse.SlowHouse(player.story, player.readers, player.way)
            self.assertTrue(same(state_of(house), slowhouse.all_told(slow)))
            for _ in range(14):
                row = player.row(house)
                found = done(house, row)
                self.assertTrue(same(found, slowhouse.deed_told(slow, row)), (found, row))
                self.assertTrue(same(state_of(house), slowhouse.all_told(slow)))
                words.append((row[0], *found[:2 if found[0] == "refused" else 1]))
            self.assertTrue(same(slowhouse.told_of(house.log()), state_of(house)))
        for word, *ends in (("come", "NoReader"), ("go", "NoReader"), ("pick", "NoReader", "NoChoice"), ("vote", "NoReader", "NoChoice"),
                            ("edit", "NoStory", "NoRow"), ("back", "NoStep")):
            self.assertGreater(words.count((word, "told")), 6, word)
            for name in ends:
                self.assertGreater(words.count((word, "refused", name)), 3, (word, name))

    def test_undone_one_by_one(self):
        for seed in range(15):
            player = Player(f"undone {seed}")
            house = House(player.story, readers=player.readers, way=player.way)
            states = [state_of(house)]
            while len(states) < 12:
                if done(house, player.row(house))[0] == "told":
                    states.append(state_of(house))
            log = house.log()
            for k in range(len(states) - 1, 0, -1):
                self.assertTrue(same(house.undo(), log[k]))
                self.assertTrue(same(state_of(house), states[k - 1]))
            self.assertEqual(house.do_all(log[1:]), len(log) - 1)
            self.assertTrue(same(state_of(house), states[-1]))


if __name__ == "__main__":
    unittest.main()

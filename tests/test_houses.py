"""Houses: readers, turns, votes, edits, back."""

import unittest

from forktales.errors import LackError, NoChoice, NoReader, NoRow, NoStep, NoStory, TaleError
from forktales.houses import House
from tests import slowhouse
from tests.helpers import STRANGE, refusal, same, told
from tests.housesamples import GO, HALL, HOME, OUT, SHUT, TURN, WAIT, done, state_of, without
from tests.samples import TOUR, VOID, changed, scene, story
from tests.waysamples import at

WAYS = ("turns", "votes", "any")
THREE = ("ann", "pia", "tom")


class Housed(unittest.TestCase):
    def setUp(self):
        self.house = None

    def of(self, *readers, way="turns", one=HALL):
        self.house = House(one, readers=readers, way=way)
        return self.house

    def tells(self, row, answer=None):
        """A deed of the house, noted in its log."""
        log = self.house.log()
        self.assertTrue(same(done(self.house, row), ("told", answer)))
        self.assertTrue(same(self.house.log(), (*log, row)))
        self.check()

    def refused(self, row, name, *fields):
        """A deed that is refused changes nothing."""
        log, before = self.house.log(), state_of(self.house)
        found = done(self.house, row)
        self.assertTrue(same(found, ("refused", name, *fields)), found)
        self.assertTrue(same(state_of(self.house), before))
        self.assertTrue(same(self.house.log(), log))

    def check(self):
        self.assertTrue(same(state_of(self.house), slowhouse.told_of(self.house.log())))

    def turn(self, reader):
        self.assertEqual(self.house.turn_now(), reader)


class Made(Housed):
    def test_each_way(self):
        for way in WAYS:
            for readers in ((), ("ann",), THREE):
                house = self.of(*readers, way=way)
                self.check()
                self.assertTrue(same(house.story_now(), HALL))
                self.assertTrue(same(house.row_now(), ()))
                self.assertTrue(same(house.stand_now(), at("a")))
                self.assertTrue(same(house.readers_now(), readers))
                self.assertEqual(house.way_now(), way)
                self.assertEqual(house.turn_now(), readers[0] if readers and way == "turns" else None)
                self.assertTrue(same((house.votes_now(), house.makers_now()), ((), ())))
                self.assertTrue(same(house.log(), (("house", HALL, readers, way),)))
                self.assertEqual((len(house), house.walks()), (0, 0))

    def test_arguments(self):
        self.assertEqual(House(HALL), House(HALL, readers=(), way="turns"))
        self.assertEqual(House(story=HALL, readers=("ann",), way="any").readers_now(), ("ann",))
        with self.assertRaises(TypeError):
            House(HALL, ("ann",))

    def test_of_a_story_that_is_not_whole(self):
        numbers, places, _, figures, digits, scenes, _ = HALL
        for one, word, place in (
            (VOID, "begin", -1), (without(TOUR, None)[:6] + ("inn",), "begin", -1), (story(scene("a", woven=("z",))), "scene", (0, 0)),
            ((numbers, places, (("inn", "x"),), figures, digits, scenes, "a"), "door", 0), ((numbers, (), (), (("ann", "x"),), (), scenes, "a"), "figure", 0),
            (None, "shape", -1), (HALL[:6], "shape", -1), ([*HALL], "shape", -1),
        ):
            for way in WAYS:
                self.assertTrue(same(refusal(House, NoStory, "word", "at", story=one, readers=("ann",), way=way), (word, place)))

    def test_what_is_told_by_methods_of_its_own(self):
        for name in ("come go pick vote edit back story_now row_now stand_now readers_now way_now turn_now votes_now makers_now offers_now sight_of has "
                     "log undo do_all walks __init__ __len__ __str__ __eq__ __ne__").split():
            self.assertIn(name, vars(House))


class Readers(Housed):
    def test_come(self):
        for way in WAYS:
            house = self.of("bob", way=way)
            self.tells(("come", "ann"))
            self.tells(("come", "zoe"))
            self.assertEqual(house.readers_now(), ("bob", "ann", "zoe"))
            self.turn("bob" if way == "turns" else None)
            for name in ("ann", "bob", "zoe"):
                self.refused(("come", name), "NoReader", name)

    def test_come_where_nobody_had_the_turn(self):
        self.of()
        self.turn(None)
        self.tells(("come", "tom"))
        self.turn("tom")
        self.tells(("come", "ann"))
        self.turn("tom")

    def test_go(self):
        for way in WAYS:
            self.of(*THREE, way=way)
            self.refused(("go", "zoe"), "NoReader", "zoe")
            for name in THREE:
                self.tells(("go", name))
                self.refused(("go", name), "NoReader", name)
            self.turn(None)
            self.assertEqual(self.house.readers_now(), ())
            self.tells(("come", "pia"))
            self.turn("pia" if way == "turns" else None)

    def test_who_has_the_turn_behind_one_that_goes(self):
        self.of(*THREE)
        self.tells(("go", "pia"))
        self.turn("ann")
        self.tells(("go", "ann"))
        self.turn("tom")
        self.of(*THREE)
        self.tells(("pick", "ann", TURN), at("a", 1))
        self.tells(("pick", "pia", TURN), at("a", 2))
        self.turn("tom")
        # behind the last one the first
        self.tells(("go", "tom"))
        self.turn("ann")

    def test_in_the_order_in_which_they_came(self):
        self.of("tom")
        self.tells(("come", "ann"))
        self.tells(("come", "pia"))
        for name, behind in (("tom", "ann"), ("ann", "pia"), ("pia", "tom")):
            self.turn(name)
            self.tells(("pick", name, WAIT), at("a"))
            self.turn(behind)
        # who goes and comes again is the last one
        self.tells(("go", "tom"))
        self.tells(("come", "tom"))
        self.turn("ann")
        self.assertEqual(self.house.readers_now(), ("ann", "pia", "tom"))

    def test_has(self):
        house = self.of("ann", "tom")
        for name in ("ann", "tom"):
            self.assertIs(told(house_has, house=house, thing=name), True)
        for thing in (*STRANGE, "pia", "an", ["ann"], ("ann", "tom"), house, {"ann": 1}):
            self.assertIs(house.has(thing), False)
            self.assertIs(house.has(thing=thing), False)

    def test_sight_of_no_reader(self):
        house = self.of("ann")
        name = "".join(["no", "ne"])
        with self.assertRaises(NoReader) as caught:
            house.sight_of(name)
        self.assertIs(caught.exception.name, name)
        self.assertIsInstance(caught.exception, LackError)


def house_has(house, thing):
    return house.has(thing)


class Picks(Housed):
    def test_by_turns(self):
        self.of(*THREE)
        self.tells(("pick", "ann", TURN), at("a", 1))
        self.refused(("pick", "ann", TURN), "NoChoice", TURN, "turn")
        self.refused(("pick", "tom", TURN), "NoChoice", TURN, "turn")
        self.tells(("pick", "pia", GO), at("b", 1))
        self.tells(("pick", "tom", HOME), at("a", 1))
        self.turn("ann")
        self.assertEqual(self.house.makers_now(), THREE)
        self.assertEqual(self.house.row_now(), (TURN, GO, HOME))

    def test_alone(self):
        self.of("ann")
        for number in (1, 2, 3):
            self.tells(("pick", "ann", TURN), at("a", number))
        self.turn("ann")

    def test_any(self):
        self.of(*THREE, way="any")
        self.tells(("pick", "tom", TURN), at("a", 1))
        self.tells(("pick", "tom", GO), at("b", 1))
        self.tells(("pick", "ann", OUT), at("c", 1))
        self.assertEqual(self.house.makers_now(), ("tom", "tom", "ann"))
        self.turn(None)

    def test_refusals_in_order(self):
        bad = ("nowhere", "none")
        self.of(*THREE, way="votes")
        self.refused(("pick", "zoe", bad), "NoReader", "zoe")
        self.refused(("pick", "ann", bad), "NoChoice", bad, "votes")
        self.refused(("pick", "ann", GO), "NoChoice", GO, "votes")
        self.of(*THREE)
        self.refused(("pick", "zoe", bad), "NoReader", "zoe")
        self.refused(("pick", "pia", bad), "NoChoice", bad, "turn")
        self.refused(("pick", "ann", bad), "NoChoice", bad, "there")
        self.refused(("pick", "ann", SHUT), "NoChoice", SHUT, "test")
        self.of(way="turns")
        self.refused(("pick", "ann", GO), "NoReader", "ann")
        self.of("ann", way="any")
        for _ in range(3):
            done(self.house, ("pick", "ann", TURN))
        self.refused(("pick", "ann", TURN), "NoChoice", TURN, ("deed", 0))
        done(self.house, ("pick", "ann", GO))
        self.tells(("pick", "ann", OUT), at("c", 3))
        self.refused(("pick", "ann", GO), "NoChoice", GO, "ended")

    def test_the_very_things(self):
        house = self.of("ann")
        pair, name = tuple(["nowhere", "none"]), "".join(["no", "ne"])
        with self.assertRaises(NoChoice) as caught:
            house.pick("ann", pair)
        self.assertIs(caught.exception.choice, pair)
        self.assertIsInstance(caught.exception, TaleError)
        for deed in (house.pick, house.vote):
            with self.assertRaises(NoReader) as caught:
                deed(name, pair)
            self.assertIs(caught.exception.name, name)


class Votes(Housed):
    def votes(self, *pairs):
        self.assertTrue(same(self.house.votes_now(), pairs))

    def test_the_last_vote(self):
        self.of(*THREE, way="votes")
        self.tells(("vote", "tom", TURN))
        self.tells(("vote", "ann", GO))
        self.votes(("ann", GO), ("tom", TURN))
        self.tells(("vote", "pia", TURN), at("a", 1))
        self.votes()
        self.assertEqual((self.house.makers_now(), self.house.row_now()), ((None,), (TURN,)))
        self.turn(None)

    def test_one_reader(self):
        self.of("ann", way="votes")
        self.tells(("vote", "ann", TURN), at("a", 1))
        self.tells(("vote", "ann", GO), at("b", 1))

    def test_a_vote_changed(self):
        self.of("ann", "tom", way="votes")
        self.tells(("vote", "ann", GO))
        self.tells(("vote", "ann", TURN))
        self.tells(("vote", "ann", TURN))
        self.votes(("ann", TURN))
        self.tells(("vote", "tom", TURN), at("a", 1))

    def test_like_many_votes(self):
        """The first as offers have them."""
        for first, second, behind in ((GO, TURN, at("b")), (TURN, GO, at("b")), (WAIT, TURN, at("a", 1)), (TURN, WAIT, at("a", 1)), (WAIT, WAIT, at("a"))):
            self.of("ann", "tom", way="votes")
            self.tells(("vote", "ann", first))
            self.tells(("vote", "tom", second), behind)
        self.of("ann", "bob", "cat", "dan", "eve", way="votes")
        for name, pair in (("ann", WAIT), ("bob", TURN), ("cat", GO), ("dan", TURN)):
            self.tells(("vote", name, pair))
        self.tells(("vote", "eve", WAIT), at("a", 1))

    def test_a_reader_gone_whose_vote_was_the_last_one_missing(self):
        self.of(*THREE, way="votes")
        self.tells(("vote", "ann", GO))
        self.tells(("vote", "tom", GO))
        self.tells(("go", "pia"), at("b"))
        self.votes()
        self.assertEqual(self.house.makers_now(), (None,))
        self.tells(("vote", "ann", HOME))
        self.tells(("go", "ann"))
        self.votes()
        self.tells(("vote", "tom", HOME), at("a"))

    def test_who_goes_takes_its_vote_along(self):
        self.of(*THREE, way="votes")
        self.tells(("vote", "ann", GO))
        self.tells(("vote", "pia", TURN))
        self.tells(("go", "ann"))
        self.votes(("pia", TURN))
        self.tells(("vote", "tom", TURN), at("a", 1))
        self.of("ann", "tom", way="votes")
        self.tells(("vote", "tom", TURN))
        self.tells(("vote", "ann", GO), at("b"))

    def test_the_last_one_gone(self):
        self.of("ann", way="votes")
        self.tells(("go", "ann"))
        self.votes()
        self.tells(("come", "ann"))
        self.tells(("vote", "ann", GO), at("b"))

    def test_who_comes_amid_votes(self):
        self.of("ann", "tom", way="votes")
        self.tells(("vote", "ann", GO))
        self.tells(("come", "pia"))
        self.votes(("ann", GO))
        self.tells(("vote", "tom", TURN))
        self.tells(("vote", "pia", TURN), at("a", 1))

    def test_refusals_in_order(self):
        bad = ("nowhere", "none")
        for way in ("turns", "any"):
            self.of("ann", way=way)
            self.refused(("vote", "tom", bad), "NoReader", "tom")
            self.refused(("vote", "ann", bad), "NoChoice", bad, way)
            self.refused(("vote", "ann", GO), "NoChoice", GO, way)
        self.of("ann", "tom", way="votes")
        self.refused(("vote", "pia", GO), "NoReader", "pia")
        self.refused(("vote", "ann", bad), "NoChoice", bad, "there")
        self.refused(("vote", "ann", SHUT), "NoChoice", SHUT, "test")
        self.tells(("vote", "ann", GO))
        self.refused(("vote", "ann", SHUT), "NoChoice", SHUT, "test")
        self.votes(("ann", GO))


class Edits(Housed):
    def test_led_over(self):
        house = self.of(*THREE)
        for name, pair in (("ann", TURN), ("pia", GO)):
            done(house, ("pick", name, pair))
        two = (*HALL[:5], tuple((*row[:1], (("text", "other"),), *row[2:]) for row in HALL[5]), HALL[6])
        self.tells(("edit", two, ((), ())))
        self.assertTrue(same(house.story_now(), two))
        self.assertEqual((house.row_now(), house.makers_now()), ((TURN, GO), ("ann", "pia")))
        self.turn("tom")

    def test_by_a_table(self):
        house = self.of("ann", way="any")
        done(house, ("pick", "ann", TURN))
        done(house, ("pick", "ann", GO))
        table = ((("a", "z"), ("b", "y")), ((("a", "go"), ("z", "leave")),))
        other = story(scene("z", choices=(("leave", (), ("all", ()), False, (), ("to", "y")), ("turn", (), ("all", ()), False, (), ("to", "z")))), scene("y"),
                      begin="z")
        self.tells(("edit", other, table))
        self.assertEqual(house.row_now(), (("z", "turn"), ("z", "leave")))
        self.assertTrue(same(house.stand_now(), ("y", (), (), (), (), (), 0)))

    def test_refused(self):
        house = self.of("ann", way="any")
        for pair in (TURN, TURN, GO):
            done(house, ("pick", "ann", pair))
        self.refused(("edit", VOID, ((), ())), "NoStory", "begin", -1)
        self.refused(("edit", without(HALL, TURN)[:6] + ("z",), ((), ())), "NoStory", "begin", -1)
        self.refused(("edit", story(scene("a", woven=("z",))), ((), ())), "NoStory", "scene", (0, 0))
        # ahead of the table
        self.refused(("edit", VOID, ((("a", "b"),), ())), "NoStory", "begin", -1)
        self.refused(("edit", without(HALL, GO), ((), ())), "NoRow", 2, "there")
        self.refused(("edit", without(HALL, TURN), ((), ())), "NoRow", 0, "there")
        few = ((("n", 0, 1, 0),), *HALL[1:])
        self.refused(("edit", few, ((), ())), "NoRow", 1, ("deed", 0))
        self.refused(("edit", HALL, ((("z", "a"),), ())), "NoRow", 0, "table")
        self.refused(("edit", HALL, ((), ((("a", "x"), ("a", "go")),))), "NoRow", 2, "table")

    def test_arguments(self):
        house = self.of("ann")
        house.edit(HALL)
        house.edit(story=HALL, table=((), ()))
        self.assertTrue(same(house.log()[1:], (("edit", HALL, ((), ())),) * 2))

    def test_votes_go_and_turn_stays(self):
        self.of("ann", "tom", way="votes")
        self.tells(("vote", "ann", GO))
        self.tells(("edit", HALL, ((), ())))
        self.assertEqual(self.house.votes_now(), ())
        self.tells(("vote", "tom", TURN))
        self.tells(("vote", "ann", TURN), at("a", 1))

    def test_the_row_goes_on_in_it(self):
        self.of("ann")
        self.tells(("pick", "ann", TURN), at("a", 1))
        more = ((("n", 0, 9, 5),), *HALL[1:])
        self.tells(("edit", more, ((), ())))
        self.assertTrue(same(self.house.stand_now(), at("a", 6)))
        self.tells(("pick", "ann", TURN), at("a", 7))
        self.tells(("back", 2), (TURN, TURN))
        self.assertTrue(same(self.house.stand_now(), at("a", 5)))


class Back(Housed):
    def test_so_many(self):
        self.of("ann", way="any")
        for pair in (TURN, TURN, GO, HOME):
            done(self.house, ("pick", "ann", pair))
        for times in (0, -1, 5, 10 ** 59, -10 ** 59):
            self.refused(("back", times), "NoStep", times)
        self.tells(("back", 1), (HOME,))
        self.assertTrue(same(self.house.stand_now(), at("b", 2)))
        self.tells(("back", 3), (TURN, TURN, GO))
        self.assertTrue(same(self.house.stand_now(), at("a")))
        self.assertEqual(self.house.makers_now(), ())
        self.refused(("back", 1), "NoStep", 1)

    def test_of_a_house_without_readers(self):
        self.of("ann")
        self.tells(("pick", "ann", GO), at("b"))
        self.tells(("go", "ann"))
        self.tells(("back", 1), (GO,))
        self.turn(None)

    def test_who_has_the_turn(self):
        self.of(*THREE)
        for name, pair in (("ann", TURN), ("pia", WAIT), ("tom", GO), ("ann", HOME)):
            done(self.house, ("pick", name, pair))
        self.turn("pia")
        self.tells(("back", 1), (HOME,))
        self.turn("ann")
        self.tells(("back", 2), (WAIT, GO))
        self.turn("pia")
        # the maker of what stands first among them, if it is one yet
        done(self.house, ("pick", "pia", WAIT))
        done(self.house, ("pick", "tom", GO))
        self.tells(("go", "pia"))
        self.turn("ann")
        self.tells(("back", 2), (WAIT, GO))
        self.turn("ann")
        self.tells(("come", "pia"))
        self.tells(("back", 1), (TURN,))
        self.turn("ann")

    def test_a_maker_that_came_again(self):
        self.of("ann", "tom")
        self.tells(("pick", "ann", TURN), at("a", 1))
        self.tells(("go", "ann"))
        self.tells(("come", "ann"))
        self.turn("tom")
        self.tells(("back", 1), (TURN,))
        self.turn("ann")

    def test_votes_go(self):
        self.of("ann", "tom", way="votes")
        for name in ("ann", "tom"):
            done(self.house, ("vote", name, GO))
        self.tells(("vote", "ann", HOME))
        self.tells(("back", 1), (GO,))
        self.assertEqual(self.house.votes_now(), ())
        self.turn(None)

    def test_the_very_number(self):
        house, times = self.of("ann"), int("9" * 40)
        with self.assertRaises(NoStep) as caught:
            house.back(times)
        self.assertIs(caught.exception.number, times)
        self.assertIsInstance(caught.exception, LackError)


class Sights(Housed):
    def sight(self, name, *rows):
        self.assertTrue(same(self.house.sight_of(name), rows), self.house.sight_of(name))
        self.assertTrue(same(self.house.sight_of(reader=name), rows))

    AT_A = (("a", "go", ("go on",)), ("a", "turn", ("again 0",)), ("a", "wait", ()))
    AT_A_ONE = (("a", "go", ("go on",)), ("a", "turn", ("again 1",)), ("a", "wait", ()))
    AT_B = (("b", "home", ()), ("b", "out", ()))

    def test_at_first(self):
        self.of("ann", "pia")
        self.sight("ann", ("shown", ("a",), self.AT_A))
        self.sight("pia", ("shown", ("a", "pst 0"), self.AT_A))

    def test_behind_each_deed(self):
        house = self.of("pia", "tom", way="any")
        seen = [("shown", ("a", "pst 0"), self.AT_A)]
        house.pick("tom", TURN)
        seen += [("made", TURN), ("shown", ("a", "pst 1"), self.AT_A_ONE)]
        self.sight("pia", *seen)
        house.come("ann")
        self.sight("pia", *seen)
        self.sight("ann", ("shown", ("a",), self.AT_A_ONE))
        house.pick("pia", GO)
        seen += [("made", GO), ("shown", ("b",), self.AT_B)]
        house.edit(HALL)
        seen += [("edit",), ("shown", ("b",), self.AT_B)]
        house.back(2)
        seen += [("back", 2), ("shown", ("a", "pst 0"), self.AT_A)]
        self.sight("pia", *seen)
        self.assertEqual(len(house.sight_of("ann")), 7)
        house.go("tom")
        self.sight("pia", *seen)
        house.go("pia")
        house.come("pia")
        self.sight("pia", ("shown", ("a", "pst 0"), self.AT_A))

    def test_votes_add_nothing(self):
        house = self.of("ann", "tom", way="votes")
        house.vote("ann", GO)
        self.sight("ann", ("shown", ("a",), self.AT_A))
        house.vote("tom", GO)
        self.sight("ann", ("shown", ("a",), self.AT_A), ("made", GO), ("shown", ("b",), self.AT_B))
        house.vote("ann", OUT)
        house.go("tom")
        self.sight("ann", ("shown", ("a",), self.AT_A), ("made", GO), ("shown", ("b",), self.AT_B), ("made", OUT), ("shown", ("c",), ()))

    def test_refusals_add_nothing(self):
        house = self.of("ann")
        for row in (("come", "ann"), ("go", "tom"), ("pick", "ann", SHUT), ("vote", "ann", GO), ("edit", VOID, ((), ())), ("back", 1)):
            self.assertEqual(done(house, row)[0], "refused")
        self.sight("ann", ("shown", ("a",), self.AT_A))

    def test_who_is_gone_has_none(self):
        house = self.of("ann", "tom")
        house.go("ann")
        with self.assertRaises(NoReader):
            house.sight_of("ann")


class ByNames(Housed):
    def test_all_arguments(self):
        house = self.of("ann", "tom", way="any")
        house.come(reader="pia")
        self.assertTrue(same(house.pick(reader="ann", choice=GO), at("b")))
        self.assertTrue(same(house.back(times=1), (GO,)))
        self.assertIsNone(house.edit(story=HALL, table=((), ())))
        self.assertIsNone(house.go(reader="pia"))
        house = self.of("ann", way="votes")
        self.assertTrue(same(house.vote(reader="ann", choice=GO), at("b")))
        self.check()

    def test_what_is_told_is_the_askers_own(self):
        """All of it are tuples, texts and numbers, so nothing that is done to them comes back."""
        house = self.of(*THREE)
        house.pick("ann", TURN)
        kinds = (tuple, str, int, type(None))

        def plain(thing):
            self.assertIsInstance(thing, kinds)
            for inner in thing if isinstance(thing, tuple) else ():
                plain(inner)

        for thing in (*state_of(house).values(), house.log()):
            if isinstance(thing, dict):
                for inner in thing.values():
                    plain(inner)
            else:
                plain(thing)
        self.assertEqual(changed(house.stand_now(), scene="b")[0], "b")
        self.check()

    def test_no_row_is_a_refusal_under_its_base(self):
        self.assertTrue(issubclass(NoRow, TaleError))


if __name__ == "__main__":
    unittest.main()

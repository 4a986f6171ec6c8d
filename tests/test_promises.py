"""What the document promises over the whole program, on many made stories and houses."""

import unittest

from forktales.alikeness import are_alike, lean_stand
from forktales.allstands import all_stands
from forktales.classchecker import lets_classes
from forktales.classes import lean_stands, lean_step
from forktales.errors import NoMore, NoRow
from forktales.heightchecker import lets_height
from forktales.heights import endings_of, height_paper, least_row
from forktales.houses import House
from forktales.leading import row_led
from forktales.linesshown import lines_shown
from forktales.lockchecker import lets_lock
from forktales.locks import lock_paper
from forktales.looking import looks_kept, looks_of
from forktales.looseness import loose_ends
from forktales.memory import place_of
from forktales.offering import offers
from forktales.rowmaking import story_rows
from forktales.rowruns import rows_offers, rows_run, rows_shown
from forktales.shownlines import shown
from forktales.standchecker import lets_stand
from forktales.storyreadings import story_read
from forktales.storytexts import story_text
from forktales.tables import table_turned
from forktales.trapchecker import lets_trap
from forktales.traps import stuck_stands, trap_paper, trap_stands
from forktales.treeruns import run
from forktales.weaving import choices_at
from forktales.wholeness import is_whole
from tests import slowtale
from tests.helpers import same
from tests.houseplay import Player
from tests.housesamples import GO, HALL, TURN, done, state_of
from tests.locksamples import shut
from tests.storymaker import FIGURES, READERS, Maker

MADE = [(maker, maker.story()) for maker in [Maker(f"promises {k}", lively=True) for k in range(45)]]
MOST = 30


def only_otherwise(maker, pieces, reader):
    """Pieces with other things told to all readers but this one alone."""
    found = []
    for piece in pieces:
        if piece[0] == "if":
            found.append((*piece[:2], only_otherwise(maker, piece[2], reader), only_otherwise(maker, piece[3], reader)))
        elif piece[0] != "only" or piece[1] == reader:
            found.append(piece if piece[0] != "only" else (*piece[:2], only_otherwise(maker, piece[2], reader)))
        elif maker.one((True, True, False)):
            found.append(("only", piece[1], maker.pieces(only=True)))
        if maker.one((True, False, False)):
            found.append(("only", "zoe", maker.pieces(only=False)))
    return tuple(found)


def parted_from(maker, one, reader):
    """A story that parts from one in what other readers alone are told."""
    scenes = tuple((row[0], only_otherwise(maker, row[1], reader), *row[2:]) for row in one[5])
    return (*one[:5], scenes, one[6])


class TheTree(unittest.TestCase):
    def test_rows_show_and_offer_what_the_tree_has(self):
        for maker, one in MADE:
            rows = story_rows(one)
            row, _ = maker.row(one, 8)
            for here in rows_run(rows, row):
                for reader in (None, *READERS):
                    lines = slowtale.shown(one, here, reader)
                    self.assertTrue(same((rows_shown(rows, here, reader=reader), shown(one, here, reader=reader)), (lines, lines)))
                told = slowtale.offers(one, here)
                self.assertTrue(same((rows_offers(rows, here), offers(one, here)), (told, told)))

    def test_numbers_stay_within_their_bounds(self):
        for maker, one in MADE:
            row, _ = maker.row(one, 12)
            for here in run(one, row):
                self.assertIs(lets_stand(one, here), True)
                for (_, low, high, _), amount in zip(one[0], here[2]):
                    self.assertTrue(low <= amount <= high)

    def test_who_comes_into_another_place(self):
        moved = 0
        for maker, one in MADE:
            row, _ = maker.row(one, 12)
            stands = run(one, row)
            for k, pair in enumerate(row):
                for name in FIGURES:
                    places = [place_of(one, here, name) for here in stands[k:k + 2]]
                    if places[0] != places[1]:
                        moved += 1
                        deeds = slowtale.choice_of(one, pair)[4]
                        self.assertIn("go" if "put" not in [deed[0] for deed in deeds] else "put", [deed[0] for deed in deeds])
        self.assertGreater(moved, 3)

    def test_no_row_comes_to_a_loose_end(self):
        for maker, one in MADE:
            ends = loose_ends(one)
            row, _ = maker.row(one, 10)
            for here in run(one, row):
                self.assertNotIn(here[0], ends)
                self.assertFalse(set(name for name, _ in choices_at(one, here[0])) & set(ends))

    def test_what_is_not_asked_for_turns_nothing_that_is_shown(self):
        for maker, one in MADE:
            row, stands = maker.row(one, 8)
            here = maker.right_stand(one)
            for other in (here, *stands):
                lean = lean_stand(one, other)
                for reader in (None, *READERS):
                    self.assertEqual(shown(one, lean, reader=reader), shown(one, other, reader=reader))
                self.assertEqual(offers(one, lean), offers(one, other))

    def test_texts_and_looks(self):
        for maker, one in MADE:
            other = story_read(story_text(one))
            self.assertTrue(same(other, one))
            self.assertIs(is_whole(other), True)
            self.assertTrue(same(looks_kept(one, other, looks=looks_of(one)), (looks_of(one), ())))
            edited = maker.edited(one)
            looks, _ = looks_kept(one, edited, looks=looks_of(one))
            self.assertTrue(same(looks, looks_of(edited)))
            self.assertTrue(all(look == () for _, look in looks))


class Ways(unittest.TestCase):
    def small(self, one):
        """Whether at most so many stands are in reach, plain and lean."""
        try:
            all_stands(one, most=MOST)
            return True
        except NoMore:
            return False

    def test_all_ways_and_ways_by_classes_tell_the_same(self):
        seen = 0
        for maker, one in MADE:
            if not self.small(one):
                continue
            seen += 1
            plain, lean = all_stands(one, most=MOST), lean_stands(one, most=MOST)
            self.assertEqual({lean_stand(one, here) for here, _ in plain}, {here for here, _ in lean})
            self.assertEqual(lets_classes(one, tuple(here for here, _ in lean)), len(lean))
            for here, height in lean:
                self.assertEqual(min(far for other, far in plain if lean_stand(one, other) == here), height)
            for here, _ in plain:
                self.assertTrue(are_alike(one, here, lean_stand(one, here)))
                for offer in offers(one, here):
                    after = lean_step(one, here, offer[:2])
                    self.assertEqual(after, lean_step(one, lean_stand(one, here), offer[:2]))
                    self.assertIn(after, [other for other, _ in lean])
        self.assertGreater(seen, 20)

    def test_each_ending_has_a_row_or_a_lock_or_none(self):
        found = []
        for maker, made in MADE:
            for one in (made, shut(maker, made)):
                for ending in endings_of(one):
                    try:
                        row, paper = least_row(one, ending, most=MOST), height_paper(one, ending, most=MOST)
                        lock = lock_paper(one, ending, most=400)
                    except NoMore:
                        continue
                    self.assertEqual(lets_height(one, ending, paper), None if row is None else len(row))
                    many = lets_lock(one, ending, lock)
                    self.assertEqual(row is not None, many == 0)
                    if row is not None:
                        self.assertEqual(slowtale.scene_of(one, run(one, row)[-1][0])[4], ending)
                    if many is not None:
                        self.assertEqual(slowtale.scene_of(one, run(one, lock[2], lifted=lock[1])[-1][0])[4], ending)
                    found.append(many)
        for many in (None, 0, 1):
            self.assertGreater(found.count(many), 3, many)

    def test_traps_and_lines(self):
        for maker, one in MADE:
            if not self.small(one):
                continue
            lean = [here for here, _ in lean_stands(one)]
            traps = trap_stands(one)
            self.assertTrue(set(stuck_stands(one)) <= set(traps) <= set(lean))
            for here in lean:
                paper = trap_paper(one, here)
                self.assertEqual(lets_trap(one, here, paper), "trap" if here in traps else "way")
            lines = {line for here in lean for reader in (None, *READERS) for line in shown(one, here, reader=reader)}
            self.assertEqual([line for line, _ in lines_shown(one)], sorted(lines))

    def test_with_more_tests_lifted_no_row_is_lost(self):
        for maker, one in MADE:
            less = maker.lifted(one)
            row, stands = maker.row(one, 8, less)
            self.assertTrue(same(run(one, row, lifted=tuple(sorted({*less, *maker.lifted(one)}))), stands))

    def test_a_row_led_over_is_made_there_or_barred_at_the_first_that_is(self):
        for maker, one in MADE:
            other, (row, stands) = maker.edited(one), maker.row(one, 6)
            try:
                calls, others = row_led(one, other, row)
                self.assertTrue(same(run(other, calls), others))
                self.assertTrue(same(row_led(other, one, calls, table=table_turned(((), ()))), (row, stands)))
            except NoRow as refused:
                self.assertEqual(slowtale.run(other, row)[1:], (refused.k, refused.why))


class Readers(unittest.TestCase):
    def pair_told(self, house, reader):
        state = state_of(house)
        sight = house.sight_of(reader) if house.has(reader) else None
        return [state[name] for name in ("row", "readers", "way", "turn", "votes", "makers", "offers", "len", "text")] + [sight]

    def test_what_a_reader_sees_hangs_not_on_what_others_alone_are_shown(self):
        parted = sights = 0
        for seed in range(60):
            player = Player(f"parted {seed}")
            maker, reader = player.maker, player.one(READERS)
            one, other = (House(story, readers=player.readers, way=player.way) for story in (player.story, parted_from(maker, player.story, reader)))
            parted += one.story_now() != other.story_now()
            for _ in range(12):
                self.assertTrue(same(self.pair_told(one, reader), self.pair_told(other, reader)))
                row = player.row(one)
                bent = (row[0], parted_from(maker, row[1], reader), row[2]) if row[0] == "edit" else row
                found, too = done(one, row), done(other, bent)
                self.assertEqual(found[0], too[0])
                if found[0] == "refused" and found[1] != "NoStory":
                    self.assertTrue(same(found, too))
            sights += len(one.sight_of(reader)) if one.has(reader) else 0
        self.assertGreater(parted, 40)
        self.assertGreater(sights, 100)

    def test_by_hand(self):
        """Pia alone is told otherwise: ann sees the same."""
        name, pieces, choices, woven, ending = HALL[5][0]
        other = (*HALL[:5], ((name, pieces[:1] + (("only", "pia", (("text", "!"), ("worth", ("seen", "b")))),), choices, woven, ending), *HALL[5][1:]), "a")
        houses = [House(one, readers=("ann", "pia"), way="any") for one in (HALL, other)]
        for house in houses:
            house.pick("ann", TURN)
            house.pick("pia", GO)
            house.back(1)
        self.assertTrue(same(houses[0].sight_of("ann"), houses[1].sight_of("ann")))
        self.assertFalse(same(houses[0].sight_of("pia"), houses[1].sight_of("pia")))
        # what only pieces ask is asked, so the stands part
        self.assertNotEqual(houses[0].stand_now(), houses[1].stand_now())
        self.assertNotEqual(houses[0], houses[1])


class NothingInCommon(unittest.TestCase):
    def test_two_houses(self):
        for seed in range(25):
            player = Player(f"two {seed}")
            one, other, alone = (House(player.story, readers=player.readers, way=player.way) for _ in range(3))
            for _ in range(10):
                row = player.row(one)
                found = done(one, row)
                before = state_of(one)
                done(other, player.row(other))
                self.assertTrue(same(state_of(one), before))
                self.assertTrue(same(done(alone, row), found))
            self.assertTrue(same(state_of(one), state_of(alone)))
            self.assertEqual(one, alone)

    def test_the_row_is_one_of_the_story(self):
        for seed in range(25):
            player = Player(f"row {seed}")
            house = House(player.story, readers=player.readers, way=player.way)
            for _ in range(10):
                done(house, player.row(house))
                stands = run(house.story_now(), house.row_now())
                self.assertTrue(same(stands[-1], house.stand_now()))
                self.assertTrue(same(offers(house.story_now(), stands[-1]), house.offers_now()))
                for reader in house.readers_now():
                    self.assertTrue(same(house.sight_of(reader)[-1], ("shown", shown(house.story_now(), stands[-1], reader=reader), house.offers_now())))


if __name__ == "__main__":
    unittest.main()

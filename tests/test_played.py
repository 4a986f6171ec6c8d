"""Many stories gone through: what has to hold of each."""

import unittest

from forktales.alikeness import are_alike, lean_stand
from forktales.asking import is_met
from forktales.barring import barred, made
from forktales.deeds import deed_done
from forktales.errors import NoChoice
from forktales.living import live_things, things_of
from forktales.memory import first_stand, place_of
from forktales.offering import offers
from forktales.shownlines import shown
from forktales.standchecker import is_right_stand, lets_stand
from forktales.sums import worth_of
from forktales.weaving import asked_scenes
from tests import slowtale
from tests.helpers import same
from tests.storymaker import FIGURES, READERS, SCENES, Maker

STORIES = [(maker, maker.story()) for maker in [Maker(seed, lively=seed % 2 == 0) for seed in range(50)]]


def stands_of(maker, story):
    """Some RIGHT STANDS, those of a row among them."""
    _, stands = maker.row(story, 5)
    return [*stands[1:], *[maker.right_stand(story) for _ in range(3)]]


def pairs_near(story, stand):
    return [*slowtale.choices_there(story, stand[0]), ("hall", "open"), ("nowhere", "none")]


def outcome(story, stand, pair, lifted):
    """("made", stand) or ("barred", bar), by both functions alike."""
    bar = barred(story, stand, pair, lifted=lifted)
    try:
        return ("made", made(story, stand, pair, lifted=lifted)) if bar is None else ("barred", made(story, stand, pair, lifted=lifted))
    except NoChoice as refused:
        return ("barred", refused.why) if same(refused.why, bar) else ("parted", bar)


class AsSlowly(unittest.TestCase):
    def test_stories(self):
        for _, one in STORIES:
            self.assertTrue(same(first_stand(one), slowtale.first(one)))
            self.assertTrue(same(things_of(one), slowtale.things(one)))
            for name in SCENES:
                self.assertTrue(same(live_things(one, name), slowtale.live(one, name)))

    def test_stands(self):
        for maker, one in STORIES:
            for at in stands_of(maker, one):
                self.assertTrue(same(lean_stand(one, at), slowtale.lean(one, at)))
                for name in FIGURES:
                    self.assertEqual(place_of(one, at, name), slowtale.place(one, at, name))
                for reader in (None, *READERS):
                    self.assertTrue(same(shown(one, at, reader=reader), slowtale.shown(one, at, reader)))

    def test_choices(self):
        found = []
        for maker, one in STORIES:
            for at in stands_of(maker, one):
                lifted = maker.lifted(one)
                self.assertTrue(same(offers(one, at, lifted=lifted), slowtale.offers(one, at, lifted)))
                for pair in pairs_near(one, at):
                    found.append(outcome(one, at, pair, lifted))
                    self.assertTrue(same(found[-1], slowtale.make(one, at, pair, lifted)))
        bars = [bar for word, bar in found if word == "barred"]
        for bar in ("ended", "there", "once", "test", ("deed", 0), ("deed", 1), "stack"):
            self.assertGreater(bars.count(bar), 5, bar)
        self.assertGreater(len(found) - len(bars), 100)

    def test_sums_tests_and_deeds(self):
        for maker, one in STORIES:
            asked = asked_scenes(one)
            for at in stands_of(maker, one):
                amount, test, deed = maker.amount(4), maker.test(4), maker.deed()
                if {part[1] for part in slowtale.inside((amount, test, deed)) if part[0] == "seen"} <= set(asked):
                    self.assertTrue(same(worth_of(one, at, amount), slowtale.worth(one, at, amount)))
                    self.assertTrue(same(is_met(one, at, test), slowtale.met(one, at, test)))
                    self.assertTrue(same(deed_done(one, at, deed), slowtale.done(one, at, deed)))


class Kept(unittest.TestCase):
    def test_what_is_made_is_right(self):
        for maker, one in STORIES:
            for at in stands_of(maker, one):
                self.assertIs(lets_stand(one, at), True)
                for pair in pairs_near(one, at):
                    word, behind = outcome(one, at, pair, (pair,))
                    self.assertTrue(word == "barred" or is_right_stand(one, behind))

    def test_who_comes_into_another_place(self):
        moved = 0
        for maker, one in STORIES:
            for at in stands_of(maker, one):
                deed = maker.deed()
                if deed[0] in ("set", "draw"):
                    continue
                behind = deed_done(one, at, deed)
                if behind is None:
                    continue
                self.assertTrue(is_right_stand(one, behind))
                for k, name in enumerate(FIGURES):
                    self.assertTrue(name == deed[1] or at[3][k] == behind[3][k])
                    places = (place_of(one, at, name), place_of(one, behind, name))
                    if places[0] != places[1]:
                        moved += 1
                        self.assertIn(deed[0], ("go", "put"))
                        self.assertTrue(slowtale.follows(one, at, deed[1], name))
                        self.assertTrue(deed[0] == "put" or tuple(sorted(places)) in one[2])
        self.assertGreater(moved, 10)

    def test_with_more_lifted_nothing_is_barred_that_was_not(self):
        for maker, one in STORIES:
            for at in stands_of(maker, one):
                less = maker.lifted(one)
                more = tuple(sorted({*less, *maker.lifted(one)}))
                for pair in pairs_near(one, at):
                    if barred(one, at, pair, lifted=less) is None:
                        self.assertIsNone(barred(one, at, pair, lifted=more))
                        self.assertTrue(same(made(one, at, pair, lifted=less), made(one, at, pair, lifted=more)))


class AlikeOnes(unittest.TestCase):
    def test_they_go_on_alike(self):
        parted = 0
        for maker, one in STORIES:
            for at in stands_of(maker, one):
                other = lean_stand(one, at)
                parted += other != at
                self.assertTrue(is_right_stand(one, other))
                self.assertTrue(same(lean_stand(one, other), other))
                self.assertIs(are_alike(one, at, other), True)
                for reader in (None, *READERS):
                    self.assertEqual(shown(one, at, reader=reader), shown(one, other, reader=reader))
                lifted = maker.lifted(one)
                self.assertEqual(offers(one, at, lifted=lifted), offers(one, other, lifted=lifted))
                for pair in pairs_near(one, at):
                    word, behind = outcome(one, at, pair, lifted)
                    word_too, behind_too = outcome(one, other, pair, lifted)
                    self.assertEqual(word, word_too)
                    if word == "made":
                        self.assertIs(are_alike(one, behind, behind_too), True)
                    else:
                        self.assertEqual(behind, behind_too)
        self.assertGreater(parted, 50)


def read_by(pieces, reader):
    """Pieces with each "only" replaced: this reader's by its pieces, others by none."""
    found = ()
    for piece in pieces:
        if piece[0] == "only":
            found += read_by(piece[2], reader) if piece[1] == reader else ()
        elif piece[0] == "if":
            found += (("if", piece[1], read_by(piece[2], reader), read_by(piece[3], reader)),)
        else:
            found += (piece,)
    return found


class Readers(unittest.TestCase):
    def test_lines_are_those_of_the_story_without_only(self):
        for maker, one in STORIES:
            for at in stands_of(maker, one):
                for reader in (None, *READERS):
                    scenes = tuple((name, read_by(pieces, reader), *rest) for name, pieces, *rest in one[5])
                    bare = (*one[:5], scenes, one[6])
                    # fewer SCENES are asked there, perhaps
                    seen = tuple(pair for pair in at[4] if pair[0] in asked_scenes(bare))
                    told = shown(one, at, reader=reader)
                    for other in (None, "nobody", reader):
                        self.assertEqual(told, shown(bare, (*at[:4], seen, *at[5:]), reader=other))


if __name__ == "__main__":
    unittest.main()

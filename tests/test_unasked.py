"""What a question does not ask for is not gone through, so an answer takes as long as what it looks at."""

import unittest

from forktales.alikeness import are_alike
from forktales.asking import is_met
from forktales.barring import barred, made
from forktales.deeds import deed_done
from forktales.memory import place_of
from forktales.offering import offers
from forktales.shownlines import shown
from forktales.sums import worth_of
from tests.samples import TOUR, TOUR_FIRST, changed, choice, scene


class Shut(tuple):
    """A tuple in which nothing may be looked at."""

    def _opened(self, *_):
        raise AssertionError("looked at")

    __iter__ = __getitem__ = __len__ = __eq__ = __lt__ = __contains__ = _opened
    __hash__ = None


SHUT = Shut(("any", ()))


def shut_choice(own):
    name, _, _, once, _, leads = own
    return (name, SHUT, SHUT, once, SHUT, leads)


def shut_but(keep):
    """TOUR with all parts shut that keep(scene, choice), of None for PIECES, does not name."""
    rows = []
    for name, pieces, choices, woven, ending in TOUR[5]:
        rows.append((
            name, pieces if keep(name, None) else SHUT,
            tuple(own if keep(name, own[0]) else shut_choice(own) for own in choices), woven, ending,
        ))
    return (*TOUR[:5], tuple(rows), TOUR[6])


class Unasked(unittest.TestCase):
    def test_of_one_choice_no_other_is_looked_at(self):
        for pair in (("hall", "enter"), ("hall", "pay"), ("map", "look")):
            one = shut_but(lambda *own: own == pair)
            self.assertIsNone(barred(one, TOUR_FIRST, pair))
            self.assertEqual(made(one, TOUR_FIRST, pair), made(TOUR, TOUR_FIRST, pair))

    def test_of_a_choice_that_is_not_there_none_is(self):
        one = shut_but(lambda *own: False)
        for at, pair, why in ((TOUR_FIRST, ("vault", "out"), "there"), (changed(TOUR_FIRST, scene="yard"), ("hall", "pay"), "ended"),
                              (changed(TOUR_FIRST, made=(("hall", "pay"),)), ("hall", "pay"), "once")):
            self.assertEqual(barred(one, at, pair), why)

    def test_a_test_that_is_lifted_is_not(self):
        own = choice("c", ("to", "a"), test=SHUT)
        one = ((), (), (), (), (), (scene("a", choices=(own,)),), "a")
        at = ("a", (), (), (), (), (), 0)
        self.assertEqual(made(one, at, ("a", "c"), lifted=(("a", "c"),)), at)

    def test_a_deed_a_sum_a_test_a_place_look_at_no_scene(self):
        one = shut_but(lambda *own: False)
        self.assertEqual(deed_done(one, TOUR_FIRST, ("draw", "luck"))[2], (3, 3))
        self.assertEqual(worth_of(one, TOUR_FIRST, ("of", "coin")), 3)
        self.assertIs(is_met(one, TOUR_FIRST, ("at", "ann", "lake")), True)
        self.assertEqual(place_of(one, TOUR_FIRST, "ann"), "lake")

    def test_shown_looks_at_the_pieces_of_its_scene(self):
        one = shut_but(lambda *own: own == ("hall", None))
        self.assertEqual(shown(one, TOUR_FIRST, reader="pia"), ("The hall, lake", "psst 3"))

    def test_offers_look_at_what_is_there(self):
        one = shut_but(lambda name, own: name in ("hall", "map") and own is not None)
        self.assertEqual(offers(one, TOUR_FIRST), offers(TOUR, TOUR_FIRST))

    def test_alike_ones_are_in_one_scene(self):
        one = shut_but(lambda *own: False)
        self.assertIs(are_alike(one, TOUR_FIRST, changed(TOUR_FIRST, scene="map")), False)

    def test_nothing_is_kept_from_one_call_to_the_next(self):
        other = (*TOUR[:4], (0,), *TOUR[5:])
        for one in (TOUR, other, TOUR):
            self.assertEqual(deed_done(one, TOUR_FIRST, ("draw", "luck"))[2], (3, one[4][0]))


if __name__ == "__main__":
    unittest.main()

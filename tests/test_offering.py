"""What is offered at a STAND."""

import unittest

from forktales.offering import offers
from tests import slowtale
from tests.helpers import same, told
from tests.samples import TOUR, TOUR_FIRST, at_with, changed, choice, largest, scene, stand, story

NEVER = ("any", ())


class Offers(unittest.TestCase):
    def offers(self, one, at, offered, **lifted):
        answer = told(offers, story=one, stand=at, **lifted)
        self.assertTrue(same(answer, offered), answer)

    def names(self, one, at, words, **lifted):
        self.offers(one, at, tuple((*word.split("."), ()) for word in words.split()), **lifted)

    def test_none(self):
        self.offers(story(scene("a")), stand(), ())

    def test_the_tour(self):
        self.offers(TOUR, TOUR_FIRST, (("hall", "enter", ("Enter for 3",)), ("hall", "pay", ()), ("map", "look", ())))
        at = changed(TOUR_FIRST, numbers=(1, -1), seen=(("map", 2),))
        self.offers(TOUR, at, (("hall", "enter", ("Enter for 1",)),))
        self.offers(TOUR, at, (("hall", "enter", ("Enter for 1",)), ("map", "look", ())), lifted=(("map", "look"), ("hall", "pay")))

    def test_own_ones_then_woven_ones(self):
        one = story(
            scene("a", choices=(choice("z", ("to", "a")), choice("b", ("to", "a"))), woven=("d", "c", "a")),
            scene("c", choices=(choice("z", ("to", "a")),), woven=("a", "c")),
            scene("d", choices=(choice("y", ("to", "a")), choice("x", ("to", "a"))), woven=("e", "d")),
            scene("e", choices=(choice("a", ("to", "a")),), woven=("a",), ending="end"),
        )
        self.names(one, stand(), "a.z a.b d.y d.x e.a c.z")
        self.names(one, stand(scene="c"), "c.z a.z a.b d.y d.x e.a")
        self.names(one, stand(scene="d"), "d.y d.x e.a a.z a.b c.z")
        self.names(one, stand(scene="e"), "")

    def test_a_scene_that_ends(self):
        one = story(scene("a", choices=(choice("z", ("to", "a")),), ending="end"))
        self.names(one, stand(), "")
        self.names(one, stand(), "", lifted=(("a", "z"),))

    # each but the first and the last is barred by another word
    MANY = story(
        scene("a", choices=(
            choice("t", ("to", "a")), choice("d", ("to", "a"), once=True), choice("c", ("to", "a"), test=NEVER),
            choice("b", ("to", "a"), deeds=(("leave", "ann"),)), choice("a", ("back",)), choice("e", ("to", "a"), once=True),
        )), places=("inn",), figures=(("ann", "inn"),),
    )
    AT = stand(wheres=at_with("inn"), made=(("a", "d"),))

    def test_what_is_barred_is_not_there(self):
        self.names(self.MANY, self.AT, "a.t a.e")
        self.names(self.MANY, changed(self.AT, made=(), stack=("a",)), "a.t a.d a.a a.e")

    def test_lifted(self):
        self.names(self.MANY, self.AT, "a.t a.c a.e", lifted=(("a", "c"),))
        self.names(self.MANY, self.AT, "a.t a.c a.e", lifted=tuple(("a", name) for name in "abcdefz"))
        self.names(self.MANY, self.AT, "a.t a.e", lifted=(("b", "c"), ("c", "a")))
        self.names(self.MANY, self.AT, "a.t a.e", lifted=())

    def test_labels_at_the_stand(self):
        own = choice("c", ("to", "a"), deeds=(("set", "n", ("num", 9)), ("put", "ann", "inn")), label=(
            ("worth", ("of", "n")), ("end",), ("place", "ann"), ("if", ("at", "ann", "inn"), (("text", " now "),), ()), ("end",), ("glue",), ("worth", ("seen", "a")),
        ))
        one = story(scene("a", choices=(own,)), numbers=(("n", -9, 9, 0),), places=("inn", "lake"), figures=(("ann", "inn"),))
        self.offers(one, stand(numbers=(-9,), wheres=at_with("lake"), seen=(("a", 4),)), (("a", "c", ("-9", "lake4")),))
        self.offers(one, stand(numbers=(0,), wheres=at_with("inn"), seen=(("a", 9),)), (("a", "c", ("0", "inn now 9")),))

    def test_the_largest(self):
        one = largest()
        for wheres in ("inn inn inn inn", "inn =ann lake =cat", "=bob =cat =dan inn"):
            at = stand(numbers=(0, 1, 2, 3), wheres=at_with(wheres), seen=(("a", 1), ("d", 0), ("e", 0), ("f", 0)), stack=("c",))
            for lifted in ((), (("a", "w"), ("b", "y"), ("c", "w"))):
                self.offers(one, at, slowtale.offers(one, at, lifted), lifted=lifted)


if __name__ == "__main__":
    unittest.main()

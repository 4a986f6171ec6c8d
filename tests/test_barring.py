"""What bars a choice, and what is made by it."""

import unittest

from forktales.barring import barred, made
from forktales.errors import NoChoice, TaleError
from tests import slowtale
from tests.helpers import by_place, refusal, same, told
from tests.samples import ALWAYS, TOUR, TOUR_FIRST, at_with, changed, choice, largest, scene, stand, story

NEVER = ("any", ())
FULL_STACK = ("a", "a", "a")


class Made(unittest.TestCase):
    def bar(self, one, at, pair, why, lifted=()):
        self.assertTrue(same(told(barred, story=one, stand=at, choice=pair, lifted=lifted), why))
        self.assertTrue(same(refusal(made, NoChoice, "choice", "why", story=one, stand=at, choice=pair, lifted=lifted), (pair, why)))

    def leads(self, one, at, pair, behind, lifted=()):
        self.assertIsNone(told(barred, story=one, stand=at, choice=pair, lifted=lifted))
        after = told(made, story=one, stand=at, choice=pair, lifted=lifted)
        self.assertTrue(same(after, behind), after)


class Bars(Made):
    # A choice that every word bars but "there": they are taken away one by one.
    def one(self, *, ending=None, once=False, test=ALWAYS, deeds=(), leads=("to", "a")):
        own = choice("c", leads, once=once, test=test, deeds=deeds)
        return story(scene("a", choices=(choice("d"), own), ending=ending), scene("b", choices=(own,)),
                     numbers=(("n", 0, 1, 0),), places=("inn",), figures=(("ann", "inn"),))

    def at(self, **parts):
        return changed(stand(numbers=(0,), wheres=(("at", "inn"),)), **parts)

    BAD = (("set", "n", ("num", 1)), ("leave", "ann"))

    def test_the_first_of_several(self):
        all_due = {"ending": "end", "once": True, "test": NEVER, "deeds": self.BAD, "leads": ("back",)}
        at = self.at(made=(("a", "c"),))
        self.bar(self.one(**all_due), at, ("a", "c"), "ended")
        self.bar(self.one(**all_due), at, ("b", "c"), "ended")
        self.bar(self.one(**all_due), at, ("b", "nowhere"), "ended")
        del all_due["ending"]
        self.bar(self.one(**all_due), self.at(made=(("a", "c"), ("b", "c"))), ("b", "c"), "there")
        self.bar(self.one(**all_due), at, ("a", "c"), "once")
        self.bar(self.one(**all_due), self.at(made=(("b", "c"),)), ("a", "c"), "test")
        all_due["test"] = ALWAYS
        self.bar(self.one(**all_due), self.at(), ("a", "c"), ("deed", 1))
        all_due["deeds"] = self.BAD[:1]
        self.bar(self.one(**all_due), self.at(), ("a", "c"), "stack")
        all_due["leads"] = ("to", "b")
        self.leads(self.one(**all_due), self.at(), ("a", "c"), self.at(scene="b", numbers=(1,), made=(("a", "c"),)))

    def test_there(self):
        for pair in (("a", "x"), ("b", "c"), ("b", "x"), ("z", "c"), ("c", "a"), ("zzzzzzzz", "zzzzzzzz")):
            self.bar(self.one(), self.at(), pair, "there")
        self.leads(self.one(), self.at(scene="b"), ("b", "c"), self.at())

    def test_ending_of_another_scene_bars_nothing(self):
        self.leads(self.one(ending="end"), self.at(scene="b"), ("b", "c"), self.at())
        self.bar(self.one(ending="end"), self.at(), ("a", "d"), "ended")

    def test_once(self):
        self.bar(self.one(once=True), self.at(made=(("a", "c"),)), ("a", "c"), "once")
        self.leads(self.one(once=True), self.at(made=(("b", "c"),)), ("a", "c"), self.at(made=(("a", "c"), ("b", "c"))))
        self.leads(self.one(once=True), self.at(), ("a", "c"), self.at(made=(("a", "c"),)))
        self.leads(self.one(), self.at(), ("a", "c"), self.at())

    def test_made_rise(self):
        self.leads(self.one(once=True), self.at(scene="b", made=(("a", "c"),)), ("b", "c"), self.at(made=(("a", "c"), ("b", "c"))))

    def test_deeds_by_their_numbers(self):
        good, bad = ("set", "n", ("num", 1)), ("leave", "ann")
        for deeds, j in (((bad, bad), 0), ((good, bad, bad), 1), ((good, good, good, good, good, bad), 5)):
            self.bar(self.one(deeds=deeds), self.at(), ("a", "c"), ("deed", j))

    def test_deeds_hang_on_those_ahead(self):
        one_more = ("set", "n", ("plus", ("of", "n"), ("num", 1)))
        self.leads(self.one(deeds=(one_more,)), self.at(), ("a", "c"), self.at(numbers=(1,)))
        self.bar(self.one(deeds=(one_more, one_more)), self.at(), ("a", "c"), ("deed", 1))
        back = ("set", "n", ("num", 0))
        self.leads(self.one(deeds=(one_more, back, one_more)), self.at(), ("a", "c"), self.at(numbers=(1,)))

    def test_a_test_is_asked_ahead_of_deeds(self):
        test = ("is", ("of", "n"), "=", ("num", 0))
        self.leads(self.one(test=test, deeds=(("set", "n", ("num", 1)),)), self.at(), ("a", "c"), self.at(numbers=(1,)))
        self.bar(self.one(test=test), self.at(numbers=(1,)), ("a", "c"), "test")

    def test_where_a_deed_cannot_be_done_nothing_is_kept_of_those_ahead(self):
        one = self.one(deeds=self.BAD)
        at = self.at()
        self.bar(one, at, ("a", "c"), ("deed", 1))
        self.assertEqual(at, self.at())


class Lifted(Made):
    ONE = story(scene("a", choices=(
        choice("c", ("to", "a"), test=NEVER), choice("d", ("to", "a"), test=NEVER, once=True), choice("e", ("back",), test=NEVER))))

    def test_its_test_is_not_asked(self):
        self.bar(self.ONE, stand(), ("a", "c"), "test")
        self.leads(self.ONE, stand(), ("a", "c"), stand(), lifted=(("a", "c"),))
        self.bar(self.ONE, stand(), ("a", "c"), "test", lifted=(("a", "d"), ("b", "c")))
        self.leads(self.ONE, stand(), ("a", "c"), stand(), lifted=(("z", "z"), ("a", "c"), ("a", "c")))

    def test_all_else_is(self):
        self.bar(self.ONE, stand(made=(("a", "d"),)), ("a", "d"), "once", lifted=(("a", "d"),))
        self.bar(self.ONE, stand(), ("a", "e"), "stack", lifted=(("a", "e"),))
        self.bar(self.ONE, stand(), ("b", "e"), "there", lifted=(("b", "e"),))

    def test_those_that_are_no_choices_do_nothing(self):
        self.bar(self.ONE, stand(), ("z", "z"), "there", lifted=(("z", "z"),))
        self.bar(self.ONE, stand(), ("a", "c"), "test", lifted=(("c", "a"), ("a", "cc")))

    def test_a_test_that_is_met(self):
        self.leads(TOUR, TOUR_FIRST, ("map", "look"), changed(TOUR_FIRST, scene="map", seen=(("map", 1),)), lifted=(("map", "look"),))

    def test_left_out(self):
        self.assertEqual(told(barred, story=self.ONE, stand=stand(), choice=("a", "c")), "test")
        self.assertEqual(refusal(made, NoChoice, "why", story=self.ONE, stand=stand(), choice=("a", "c")), ("test",))
        self.assertEqual(told(made, story=TOUR, stand=TOUR_FIRST, choice=("map", "look"))[0], "map")


class Stack(Made):
    ONE = story(scene("a", choices=(choice("b", ("back",)), choice("i", ("into", "b", "c")), choice("t", ("to", "c")))),
                scene("b"), scene("c"))

    def test_into(self):
        for stack in ((), ("c",), ("b", "c")):
            self.leads(self.ONE, stand(stack=stack), ("a", "i"), stand(scene="b", stack=stack + ("c",)))
        self.bar(self.ONE, stand(stack=FULL_STACK), ("a", "i"), "stack")

    def test_back(self):
        self.leads(self.ONE, stand(stack=("b",)), ("a", "b"), stand(scene="b"))
        self.leads(self.ONE, stand(stack=("b", "a", "c")), ("a", "b"), stand(scene="c", stack=("b", "a")))
        self.bar(self.ONE, stand(), ("a", "b"), "stack")

    def test_to(self):
        for stack in ((), FULL_STACK):
            self.leads(self.ONE, stand(stack=stack), ("a", "t"), stand(scene="c", stack=stack))


class Seen(Made):
    def one(self, leads):
        return story(scene("a", pieces=(("worth", ("seen", "b")), ("worth", ("seen", "c"))), choices=(choice("x", leads),)), scene("b"), scene("c"))

    def test_each_next(self):
        counted = (("b", 1), ("c", 0))
        self.leads(self.one(("to", "b")), stand(seen=(("b", 0), ("c", 0))), ("a", "x"), stand(scene="b", seen=counted))
        self.leads(self.one(("into", "b", "c")), stand(seen=(("b", 0), ("c", 0))), ("a", "x"), stand(scene="b", stack=("c",), seen=counted))
        self.leads(self.one(("back",)), stand(seen=(("b", 0), ("c", 0)), stack=("c", "b")), ("a", "x"), stand(scene="b", stack=("c",), seen=counted))

    def test_nine_stay_nine(self):
        for many, after in ((7, 8), (8, 9), (9, 9)):
            self.leads(self.one(("to", "c")), stand(seen=(("b", 9), ("c", many))), ("a", "x"), stand(scene="c", seen=(("b", 9), ("c", after))))

    def test_what_is_not_asked_is_not_counted(self):
        self.leads(self.one(("to", "a")), stand(seen=(("b", 0), ("c", 0))), ("a", "x"), stand(seen=(("b", 0), ("c", 0))))

    def test_deeds_ask_how_often_ahead_of_the_step(self):
        own = choice("x", ("to", "a"), deeds=(("set", "n", ("seen", "a")),))
        one = story(scene("a", choices=(own,)), numbers=(("n", 0, 9, 0),))
        self.leads(one, stand(numbers=(0,), seen=(("a", 1),)), ("a", "x"), stand(numbers=(1,), seen=(("a", 2),)))


class Woven(Made):
    ONE = story(
        scene("a", choices=(choice("x", ("to", "a")),), woven=("b",)),
        scene("b", choices=(choice("x", ("to", "b"), once=True, test=("at", "ann", "inn")),), woven=("c", "a"), ending="end"),
        scene("c", choices=(choice("x", ("into", "c", "c")),)),
        places=("inn",), figures=(("ann", "inn"),),
    )
    AT = stand(wheres=(("at", "inn"),))

    def test_own_and_woven_ones(self):
        self.leads(self.ONE, self.AT, ("a", "x"), self.AT)
        # the ending of a SCENE that is woven in is none of the STAND's SCENE
        self.leads(self.ONE, self.AT, ("b", "x"), changed(self.AT, scene="b", made=(("b", "x"),)))
        self.leads(self.ONE, self.AT, ("c", "x"), changed(self.AT, scene="c", stack=("c",)))

    def test_bars_of_woven_ones(self):
        self.bar(self.ONE, changed(self.AT, made=(("b", "x"),)), ("b", "x"), "once")
        self.bar(self.ONE, changed(self.AT, stack=("a", "b", "c")), ("c", "x"), "stack")
        self.bar(self.ONE, changed(self.AT, scene="c"), ("a", "x"), "there")
        self.bar(self.ONE, changed(self.AT, scene="b"), ("c", "x"), "ended")


class Refusals(Made):
    def test_the_very_thing(self):
        pair = ("hall", "".join(["no", "ne"]))
        for call in (lambda named: made(**named), lambda named: by_place(made, named)):
            with self.assertRaises(NoChoice) as caught:
                call({"story": TOUR, "stand": TOUR_FIRST, "choice": pair, "lifted": ()})
            self.assertIs(caught.exception.choice, pair)
            self.assertIsInstance(caught.exception, TaleError)

    def test_all_of_a_stand(self):
        at = changed(TOUR_FIRST, wheres=at_with("lake =ann =bob"), stack=("map",))
        behind = changed(at, scene="yard", numbers=(1, -1), wheres=at_with("inn =ann =bob"), made=(("hall", "pay"),))
        self.leads(TOUR, at, ("hall", "pay"), behind)
        self.bar(TOUR, behind, ("yard", "go"), "ended")

    def test_the_largest(self):
        one = largest()
        at = stand(stack=FULL_STACK, numbers=(0, 1, 2, 3), wheres=at_with("=bob =cat =dan wood"), digit=5,
                   seen=(("a", 9), ("d", 9), ("e", 9), ("f", 9)))
        for lifted in ((), (("b", "y"), ("d", "w"))):
            for pair in slowtale.choices_there(one, "a") + [("e", "x")]:
                word, thing = slowtale.make(one, at, pair, lifted)
                if word == "made":
                    self.leads(one, at, pair, thing, lifted)
                else:
                    self.bar(one, at, pair, thing, lifted)


if __name__ == "__main__":
    unittest.main()

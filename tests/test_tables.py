"""TABLES and calls."""

import unittest

from forktales.tables import choice_call, is_table, scene_call, table_turned
from tests import plainkinds
from tests.helpers import STRANGE, bent, deep, same, told

VOID = ((), ())
RING = ((("a", "b"), ("b", "c"), ("c", "a")), ())
TABLES = (
    VOID,
    RING,
    ((("a", "b"),), ()),
    ((("a", "a"), ("b", "x")), ()),
    ((("hall", "room"), ("yard", "hall")), ((("hall", "open"), ("room", "shut")), (("yard", "x"), ("yard", "y")))),
    ((), ((("a", "x"), ("a", "y")), (("a", "y"), ("b", "x")), (("b", "x"), ("a", "x")))),
    ((("a", "c"),), ((("a", "x"), ("c", "y")), (("b", "y"), ("a", "x")))),
)
NAMES = ("a", "b", "c", "d", "hall", "room", "yard", "x")
CHOICES = tuple((one, other) for one in NAMES for other in ("x", "y", "open", "shut", "a"))


class Kinds(unittest.TestCase):
    def test_each_one_is_one(self):
        for table in TABLES:
            self.assertIs(told(is_table, thing=table), True)

    def test_what_is_none(self):
        for thing in STRANGE + (deep((), 29), ((),), ((), (), ()), [(), ()], ([], ()), ((), []), (None, ()), ((), None), ("", "")):
            self.assertIs(told(is_table, thing=thing), plainkinds.some_table(thing), thing)

    def test_the_bent_ones(self):
        for table in TABLES:
            for thing in bent(table):
                self.assertIs(is_table(thing), plainkinds.some_table(thing), thing)

    def test_scenes(self):
        for scenes, is_one in (
            ((("a", "b"), ("b", "a")), True), ((("b", "a"), ("a", "b")), False), ((("a", "b"), ("a", "c")), False),
            ((("a", "b"), ("c", "b")), False), ((("a", "b"), ("a", "b")), False), ((("a",),), False), ((("a", "b", "c"),), False),
            ((["a", "b"],), False), (("ab",), False), ((("a", 1),), False), (((True, "a"),), False), ((("A", "b"),), False),
            ((("a", ""),), False), ([("a", "b")], False), ((("a", ["b"]),), False),
        ):
            self.assertIs(is_table((scenes, ())), is_one, scenes)

    def test_choices(self):
        a, b, c = ("a", "x"), ("b", "x"), ("b", "y")
        for choices, is_one in (
            (((a, b), (b, a)), True), (((b, a), (a, b)), False), (((a, b), (a, c)), False), (((a, c), (b, c)), False),
            (((b, a), (c, b)), True), (((c, a), (b, b)), False), (((a,),), False), (((a, b, c),), False), (([a, b],), False),
            (((a, ["b", "x"]),), False), (((["a", "x"], b),), False), (((a, ("b", "x", "y")),), False), (((a, "b"),), False),
            ((("a", b),), False), (((a, ("b", 1)),), False), ([(a, b)], False), (((a, ("B", "x")),), False), ((("a", "b"),), False),
        ):
            self.assertIs(is_table(((), choices)), is_one, choices)

    def test_the_parts_are_not_exchanged(self):
        self.assertIs(is_table((((("a", "x"), ("b", "x")),), ())), False)
        self.assertIs(is_table(((), (("a", "b"),))), False)


class SceneCalls(unittest.TestCase):
    def test_the_void_table(self):
        for name in NAMES:
            self.assertEqual(told(scene_call, table=VOID, name=name), name)

    def test_by_pairs(self):
        table = ((("a", "b"), ("c", "d"), ("e", "e")), ())
        for name, call in (("a", "b"), ("b", None), ("c", "d"), ("d", None), ("e", "e"), ("f", "f")):
            self.assertEqual(told(scene_call, table=table, name=name), call)

    def test_seconds_that_are_firsts_elsewhere(self):
        self.assertEqual([told(scene_call, table=RING, name=name) for name in "abcd"], ["b", "c", "a", "d"])
        chain = ((("a", "b"), ("b", "c")), ())
        self.assertEqual([scene_call(chain, name) for name in "abcd"], ["b", "c", None, "d"])

    def test_choices_do_not_matter(self):
        table = ((), ((("a", "x"), ("b", "x")),))
        self.assertEqual([scene_call(table, name) for name in "abx"], ["a", "b", "x"])


class ChoiceCalls(unittest.TestCase):
    def test_the_void_table(self):
        for choice in CHOICES:
            self.assertTrue(same(told(choice_call, table=VOID, choice=choice), choice))

    def test_by_pairs_ahead_of_scenes(self):
        table = ((("a", "b"),), ((("a", "x"), ("c", "y")), (("d", "x"), ("d", "z"))))
        for choice, call in (
            (("a", "x"), ("c", "y")), (("d", "x"), ("d", "z")), (("a", "y"), ("b", "y")), (("d", "y"), ("d", "y")),
            (("b", "x"), None), (("d", "z"), None), (("c", "y"), None), (("c", "x"), ("c", "x")),
        ):
            self.assertEqual(told(choice_call, table=table, choice=choice), call, choice)

    def test_a_scene_without_call(self):
        table = ((("a", "b"),), ((("b", "x"), ("z", "x")),))
        self.assertEqual(choice_call(table, ("b", "x")), ("z", "x"))
        self.assertIsNone(choice_call(table, ("b", "y")))

    def test_the_pair_of_the_scenes_call_is_a_second(self):
        table = ((("a", "b"),), ((("c", "x"), ("b", "y")),))
        self.assertIsNone(told(choice_call, table=table, choice=("a", "y")))
        self.assertEqual(choice_call(table, ("a", "x")), ("b", "x"))
        other = ((("a", "b"),), ((("c", "x"), ("a", "y")),))
        self.assertEqual(choice_call(other, ("a", "y")), ("b", "y"))

    def test_rings(self):
        table = ((), ((("a", "x"), ("a", "y")), (("a", "y"), ("b", "x")), (("b", "x"), ("a", "x"))))
        self.assertEqual(choice_call(table, ("a", "x")), ("a", "y"))
        self.assertEqual(choice_call(table, ("a", "y")), ("b", "x"))
        self.assertEqual(choice_call(table, ("b", "x")), ("a", "x"))
        self.assertEqual(choice_call(table, ("b", "y")), ("b", "y"))
        self.assertEqual([choice_call(RING, (name, "x")) for name in "abcd"], [("b", "x"), ("c", "x"), ("a", "x"), ("d", "x")])


class NoNames(unittest.TestCase):
    def test_things_that_are_no_names_have_no_call(self):
        for table in TABLES:
            for thing in STRANGE:
                if not plainkinds.word(thing):
                    self.assertIs(scene_call(table, thing), None)
                self.assertIs(choice_call(table, thing), None)
            for choice in (("a",), ("a", "b", "c"), ["a", "b"], ("a", 1), (None, "b")):
                self.assertIs(choice_call(table, choice), None)


class Turned(unittest.TestCase):
    def test_written_in_full(self):
        table = ((("a", "z"), ("b", "y"), ("z", "b")), ((("a", "x"), ("c", "x")), (("b", "x"), ("a", "y"))))
        self.assertEqual(told(table_turned, table=table),
                         ((("b", "z"), ("y", "b"), ("z", "a")), ((("a", "y"), ("b", "x")), (("c", "x"), ("a", "x")))))
        self.assertTrue(same(told(table_turned, table=VOID), VOID))

    def test_twice_it_is_itself(self):
        for table in TABLES:
            turned = told(table_turned, table=table)
            self.assertIs(is_table(turned), True)
            self.assertTrue(same(table_turned(turned), table))

    def test_each_is_the_call_of_its_call(self):
        for table in TABLES:
            turned = table_turned(table)
            for one, other in ((table, turned), (turned, table)):
                for name in NAMES:
                    call = scene_call(one, name)
                    if call is not None:
                        self.assertEqual(scene_call(other, call), name)
                for choice in CHOICES:
                    call = choice_call(one, choice)
                    if call is not None:
                        self.assertEqual(choice_call(other, call), choice, (one, choice, call))

    def test_no_two_have_one_call(self):
        for table in TABLES:
            names = [call for call in (scene_call(table, name) for name in NAMES) if call is not None]
            choices = [call for call in (choice_call(table, choice) for choice in CHOICES) if call is not None]
            self.assertEqual(len(names), len(set(names)))
            self.assertEqual(len(choices), len(set(choices)))


if __name__ == "__main__":
    unittest.main()

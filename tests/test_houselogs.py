"""LOGS, of any thing."""

import unittest

from forktales.houselogs import is_log
from tests import plainkinds
from tests.helpers import STRANGE, bent, deep, told
from tests.samples import BIG, INN, LOG, SMALL, VOID

HOUSE = ("house", SMALL, ("ann", "bob"), "votes")
TABLE = ((("a", "b"),), ((("a", "x"), ("b", "x")),))


class Logs(unittest.TestCase):
    def goes(self, is_one, *rows):
        self.assertIs(told(is_log, thing=rows), is_one, rows)

    def test_each_one_is_one(self):
        self.assertIs(told(is_log, thing=LOG), True)
        self.goes(True, HOUSE)
        self.goes(True, ("house", INN, (), "turns"))

    def test_what_is_none_at_all(self):
        for thing in STRANGE + (deep((), 29), deep([], 29), HOUSE, [HOUSE], (list(HOUSE),), ((),), (None,), (("come", "ann"),)):
            self.assertIs(told(is_log, thing=thing), False, thing)

    def test_the_bent_ones(self):
        small = tuple(row for row in LOG if len(row) < 2 or row[1] is not INN)
        for thing in bent(small):
            self.assertIs(is_log(thing), plainkinds.some_log(thing), thing)

    def test_rows_of_the_house(self):
        for row in (
            ("home", SMALL, (), "any"), ("house", SMALL, ()), ("house", SMALL, (), "any", ()), ("house", SMALL, (), "Any"),
            ("house", SMALL, (), "turn"), ("house", SMALL, (), None), ("house", SMALL, (), ("any",)), ("house", SMALL, [], "any"),
            ("house", SMALL, ("bob", "ann"), "any"), ("house", SMALL, ("ann", "ann"), "any"), ("house", SMALL, ("Ann",), "any"),
            ("house", SMALL, "ann", "any"), ("house", SMALL, (1,), "any"), ("house", list(SMALL), (), "any"), ("house", (), (), "any"),
            ("house", SMALL[:6] + ("Hall",), (), "any"), ["house", SMALL, (), "any"], (True, SMALL, (), "any"),
        ):
            self.goes(False, row)
            self.goes(False, HOUSE, row)

    def test_just_one_row_of_a_house_ahead(self):
        self.goes(False, HOUSE, HOUSE)
        self.goes(False, ("come", "ann"), HOUSE)
        self.goes(False, HOUSE, ("come", "ann"), HOUSE)

    def test_each_way(self):
        for way in ("turns", "votes", "any"):
            self.goes(True, ("house", VOID, ("a",), way))

    def test_stories_need_not_be_whole(self):
        nowhere = VOID[:6] + ("nowhere",)
        self.goes(True, ("house", nowhere, (), "any"), ("edit", nowhere, ((), ())))

    def test_rows_by_kind_alone(self):
        for row in (
            ("come", "ann"), ("come", "zoe"), ("go", "zoe"), ("pick", "zoe", ("no", "where")), ("vote", "zoe", ("no", "where")),
            ("edit", INN, TABLE), ("edit", INN, ((), ())), ("back", 0), ("back", -5), ("back", BIG), ("back", 10 ** 60),
        ):
            self.goes(True, HOUSE, row)
            self.goes(True, HOUSE, ("back", 1), row, row)

    def test_bent_rows(self):
        for row in (
            ("come",), ("come", "ann", "bob"), ("come", "Ann"), ("come", 1), ("come", None), ["come", "ann"], ("comes", "ann"),
            ("go",), ("go", ("ann",)), ("go", "ann", ("a", "b")), ("pick", "ann"), ("pick", "ann", "hall", "open"),
            ("pick", "ann", ["hall", "open"]), ("pick", "ann", ("hall",)), ("pick", "ann", ("hall", "open", "x")),
            ("pick", "Ann", ("hall", "open")), ("pick", "ann", ("hall", "Open")), ("pick", ("hall", "open"), "ann"),
            ("pick", "ann", "no"), ("vote", "ann"), ("vote", 1, ("hall", "open")), ("vote", "ann", ("hall", 1)), ("vote", "ann", ()),
            ("edit", INN), ("edit", INN, ()), ("edit", INN, ((), (), ())), ("edit", INN, [(), ()]), ("edit", TABLE, INN),
            ("edit", INN, ((("b", "a"), ("a", "b")), ())), ("edit", list(INN), TABLE), ("edit", INN, TABLE, ()), ("edit", None, TABLE),
            ("back",), ("back", True), ("back", False), ("back", "1"), ("back", None), ("back", 1, 1), ("back", (1,)), (), None, "back",
            ("undo",), ("shown", (), ()), ("made", ("a", "b")), (True, 1), (1, 1), (None, "ann"), ((), "ann"), (["come"], "ann"),
            (("come",), "ann"),
        ):
            self.goes(False, HOUSE, row)
            self.goes(False, HOUSE, ("come", "ann"), row, ("back", 1))


if __name__ == "__main__":
    unittest.main()

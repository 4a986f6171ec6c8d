"""The refusals: their bases and fields."""

import unittest

from forktales import errors

FIELDS = {
    "NoPaper": ("TaleError", ("word", "at")),
    "NoStory": ("TaleError", ("word", "at")),
    "NoChoice": ("TaleError", ("choice", "why")),
    "NoRow": ("TaleError", ("k", "why")),
    "NoMore": ("TaleError", ("many",)),
    "NoText": ("TaleError", ("line", "word")),
    "NoScene": ("LackError", ("name",)),
    "NoReader": ("LackError", ("name",)),
    "NoEnding": ("LackError", ("name",)),
    "NoStep": ("LackError", ("number",)),
}


class Untouchable:
    """A thing that can only be kept: whoever looks at it fails."""

    def fail(self, *_):
        raise AssertionError("looked at")

    __eq__ = __ne__ = __hash__ = __repr__ = __str__ = __len__ = __bool__ = __iter__ = fail
    __lt__ = __gt__ = __le__ = __ge__ = __getitem__ = __contains__ = __call__ = __index__ = fail


class Bases(unittest.TestCase):
    def test_the_two_bases(self):
        self.assertEqual(errors.TaleError.__bases__, (ValueError,))
        self.assertEqual(errors.LackError.__bases__, (LookupError,))

    def test_each_is_straight_under_one_base(self):
        for name, (base, _) in FIELDS.items():
            with self.subTest(name):
                self.assertEqual(getattr(errors, name).__bases__, (getattr(errors, base),))

    def test_all_are_defined_there(self):
        for name in [*FIELDS, "TaleError", "LackError"]:
            self.assertEqual(getattr(errors, name).__module__, "forktales.errors")


class Fields(unittest.TestCase):
    def test_very_things_are_kept_by_place(self):
        for name, (_, fields) in FIELDS.items():
            for things in ([Untouchable() for _ in fields], [[] for _ in fields], [None for _ in fields]):
                with self.subTest(name):
                    made = getattr(errors, name)(*things)
                    for field, thing in zip(fields, things):
                        self.assertIs(getattr(made, field), thing)

    def test_very_things_are_kept_by_name(self):
        for name, (_, fields) in FIELDS.items():
            for kind in (Untouchable, list, dict, object):
                with self.subTest(name):
                    things = {field: kind() for field in reversed(fields)}
                    made = getattr(errors, name)(**things)
                    for field, thing in things.items():
                        self.assertIs(getattr(made, field), thing)

    def test_just_these_fields(self):
        for name, (_, fields) in FIELDS.items():
            with self.subTest(name):
                kind = getattr(errors, name)
                with self.assertRaises(TypeError):
                    kind(*fields[1:])
                with self.assertRaises(TypeError):
                    kind(*fields, 1)
                with self.assertRaises(TypeError):
                    kind(*fields, more=1)
                self.assertEqual(set(vars(kind(*fields))), set(fields))

    def test_they_can_be_raised_and_caught_by_their_bases(self):
        for name, (base, fields) in FIELDS.items():
            with self.subTest(name):
                with self.assertRaises(getattr(errors, base)) as caught:
                    raise getattr(errors, name)(*fields)
                self.assertEqual([getattr(caught.exception, field) for field in fields], list(fields))


if __name__ == "__main__":
    unittest.main()

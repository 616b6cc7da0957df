"""Point [9]: the refusals, their fields and their families."""

import unittest

from handsmade import errors
from handsmade.errors import HandsError, PaperError, TextError, WorksError

FIELDS = {
    "NoPaper": (PaperError, ("word", "at")),
    "NoWorks": (WorksError, ("word", "at")),
    "NoDeed": (WorksError, ("deed", "why")),
    "NoRow": (WorksError, ("k", "why")),
    "NoMore": (WorksError, ("many",)),
    "NoKeep": (WorksError, ("deed",)),
    "NoHouse": (WorksError, ("name",)),
    "NoBack": (WorksError, ("times",)),
    "NoText": (TextError, ("line", "word")),
    "NoLine": (TextError, ("line",)),
}
FAMILIES = (PaperError, WorksError, TextError)


class Shy:
    """A thing that fails as soon as anybody looks at it."""

    def __getattribute__(self, name):
        raise AssertionError("looked at")

    def __eq__(self, other):
        raise AssertionError("compared")

    __hash__ = None

    def __bool__(self):
        raise AssertionError("asked")

    def __repr__(self):
        raise AssertionError("shown")

    def __str__(self):
        raise AssertionError("told")


class Refusals(unittest.TestCase):
    def test_bases_are_straight_under_one_another(self):
        self.assertEqual(HandsError.__bases__, (ValueError,))
        for family in FAMILIES:
            self.assertEqual(family.__bases__, (HandsError,))
        for name, (family, _) in FIELDS.items():
            self.assertEqual(getattr(errors, name).__bases__, (family,), name)

    def test_fields_keep_the_very_things_by_place(self):
        for name, (_, fields) in FIELDS.items():
            things = [[k] for k in range(len(fields))]
            made = getattr(errors, name)(*things)
            for field, thing in zip(fields, things):
                self.assertIs(getattr(made, field), thing, (name, field))

    def test_fields_keep_the_very_things_by_name(self):
        for name, (_, fields) in FIELDS.items():
            things = {field: [field] for field in reversed(fields)}
            made = getattr(errors, name)(**things)
            for field in fields:
                self.assertIs(getattr(made, field), things[field], (name, field))
            self.assertEqual(set(vars(made)), set(fields), name)

    def test_fields_are_not_looked_at(self):
        for name, (_, fields) in FIELDS.items():
            things = [Shy() for _ in fields]
            made = getattr(errors, name)(*things)
            for field, thing in zip(fields, things):
                self.assertIs(getattr(made, field), thing, (name, field))

    def test_just_these_fields_are_taken(self):
        for name, (_, fields) in FIELDS.items():
            told = getattr(errors, name)
            with self.assertRaises(TypeError):
                told(*fields, "more")
            with self.assertRaises(TypeError):
                told(*fields[1:])

    def test_caught_by_own_name_family_and_base(self):
        for name, (family, fields) in FIELDS.items():
            told = getattr(errors, name)
            for base in (told, family, HandsError, ValueError):
                with self.assertRaises(base):
                    raise told(*fields)

    def test_not_caught_by_others(self):
        for name, (family, fields) in FIELDS.items():
            made = getattr(errors, name)(*fields)
            for other in FAMILIES:
                self.assertEqual(isinstance(made, other), other is family, (name, other))
            for word in FIELDS:
                self.assertEqual(isinstance(made, getattr(errors, word)), word == name, (name, word))


if __name__ == "__main__":
    unittest.main()

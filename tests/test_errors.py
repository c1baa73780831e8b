import unittest

from keptrest import errors
from keptrest.errors import KeptrestError

FIELDS = {
    "BadText": ("place",), "BadForm": ("path",), "NoForm": (), "TwiceDefined": ("word",), "BadWord": ("word",),
    "BadRule": ("path",), "NoRule": ("path",), "Uneven": ("path",), "UnknownWord": ("word", "path"),
    "Arguments": ("word", "path"), "TooMany": ("what",), "TooGreat": ("what",), "NotThere": ("path",),
    "OutOfRange": ("value",), "NoRoad": ("number",), "NoPoint": ("place",), "NotReached": ("address",),
    "EmptyRead": ("point",), "UnknownName": ("name",), "NoImage": (), "BadLimits": ("value",), "BadName": ("name",),
    "NameTaken": ("name",), "NothingHeld": (), "NothingToUndo": (), "NothingToRedo": (), "Open": (),
}


class Errors(unittest.TestCase):
    def test_base(self):
        self.assertTrue(issubclass(KeptrestError, ValueError))
        self.assertEqual(KeptrestError.__bases__, (ValueError,))

    def test_all_are_there_and_no_others(self):
        found = {name for name, thing in vars(errors).items() if isinstance(thing, type)}
        self.assertEqual(found, set(FIELDS) | {"KeptrestError"})

    def test_none_stands_under_another(self):
        for name in FIELDS:
            self.assertEqual(getattr(errors, name).__bases__, (KeptrestError,))

    def test_fields_by_name_and_in_order(self):
        for name, fields in FIELDS.items():
            told = tuple(range(len(fields)))
            error = getattr(errors, name)(*told)
            self.assertEqual(tuple(getattr(error, field) for field in fields), told, name)
            self.assertEqual(list(vars(error)), list(fields), name)

    def test_are_caught_as_value_errors(self):
        for name, fields in FIELDS.items():
            with self.assertRaises(ValueError):
                raise getattr(errors, name)(*fields)

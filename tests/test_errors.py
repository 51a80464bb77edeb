"""The table of the errors in the interface."""

import inspect
import unittest

from everlit import errors

TABLE = {
    "LightError": {
        "InvalidNet": ("word", "index"), "InvalidRoute": ("value",), "TooFar": ("length",),
        "InvalidBand": ("value",), "InvalidLayout": ("word", "item"), "InvalidWish": ("word",),
        "NotAllowed": ("index", "word"), "Turned": ("lower", "upper"), "Unlike": ("item",),
        "Circular": ("ring",), "Barred": ("certificate",), "ParseError": ("line", "word"),
        "UnknownCommand": ("command",),
    },
    "KeyError": {"NoItem": ("item",), "NoStation": ("name",), "NoDuct": ("name",), "NoName": ("name",)},
    "IndexError": {"NoFibre": ("index",)},
    "OverflowError": {"TooMany": ("limit",), "TooWide": ("limit",), "TooNarrow": ("needed",)},
    "LookupError": {"NothingToUndo": ("count",)},
}
BASES = {
    "LightError": errors.LightError, "KeyError": KeyError, "IndexError": IndexError,
    "OverflowError": OverflowError, "LookupError": LookupError,
}
ROWS = [
    (getattr(errors, name), BASES[base], fields)
    for base, row in TABLE.items() for name, fields in row.items()
]
VALUES = [None, True, [1, [2]], {"a": 1}, "word", ("a", 1), 10 ** 59]


class ErrorsTest(unittest.TestCase):
    def test_fields_by_position(self):
        for kind, _, fields in ROWS:
            for shift in range(len(VALUES)):
                told = [VALUES[(shift + at) % len(VALUES)] for at in range(len(fields))]
                error = kind(*told)
                with self.subTest(kind=kind.__name__, told=told):
                    for field, value in zip(fields, told):
                        self.assertIs(getattr(error, field), value)

    def test_fields_by_name(self):
        for kind, _, fields in ROWS:
            error = kind(**{field: field + "!" for field in reversed(fields)})
            with self.subTest(kind=kind.__name__):
                for field in fields:
                    self.assertEqual(getattr(error, field), field + "!")

    def test_other_numbers_of_fields(self):
        for kind, _, fields in ROWS:
            with self.subTest(kind=kind.__name__):
                self.assertRaises(TypeError, kind, *fields[1:])
                self.assertRaises(TypeError, kind, *fields, 1)

    def test_bases(self):
        self.assertTrue(issubclass(errors.LightError, ValueError))
        for kind, base, _ in ROWS:
            with self.subTest(kind=kind.__name__):
                self.assertEqual(kind.__bases__, (base,))

    def test_none_is_a_subclass_of_another(self):
        for kind, base, _ in ROWS:
            for other, _, _ in ROWS:
                with self.subTest(kind=kind.__name__, other=other.__name__):
                    self.assertEqual(issubclass(kind, other), kind is other)

    def test_the_last_one(self):
        self.assertFalse(issubclass(errors.NothingToUndo, (KeyError, IndexError)))

    def test_all_are_defined_there(self):
        found = {name for name, kind in inspect.getmembers(errors, inspect.isclass)}
        self.assertEqual(found, {kind.__name__ for kind, _, _ in ROWS} | {"LightError"})
        for kind, _, _ in ROWS:
            self.assertEqual(kind.__module__, "everlit.errors")

    def test_they_can_be_raised_and_told(self):
        for kind, base, fields in ROWS:
            with self.subTest(kind=kind.__name__):
                with self.assertRaises(base) as caught:
                    raise kind(*fields)
                self.assertIsInstance(str(caught.exception), str)

"""The errors: their classes and their fields."""

import unittest

from sixpins import errors
from sixpins.papers import Denial
from tests.support import Loud, Thing

OF_PART = ("BadNumber", "BadRow", "BadTable", "BadForm", "BadText", "BadPins", "BadSurface", "BadName",
           "BadNames", "BadRenaming", "BadStroke", "BadPaper", "Misfit")
OF_WHY = ("NoPins", "NoStroke")
FIELDS = {name: ("part",) for name in OF_PART}
FIELDS.update({name: ("why",) for name in OF_WHY})
FIELDS["TooMany"] = ("what", "most")

VALUES = (None, True, 0, -7, 10 ** 5000, 1.5, "", "row", b"row", [1, [2]], (1, (2, [3])), {"a": [1]}, {1, 2},
          Thing(), Loud(), Thing, len, Denial("no"), ValueError("no"))

OTHERS = (ArithmeticError, LookupError, TypeError, AttributeError, RuntimeError, OSError, AssertionError,
          NameError, StopIteration, UnicodeError, ImportError, SyntaxError, MemoryError)


class ErrorsTest(unittest.TestCase):

    def test_there_are_just_these(self):
        told = {name for name, value in vars(errors).items()
                if isinstance(value, type) and issubclass(value, BaseException)}
        self.assertEqual(told, set(FIELDS) | {"PinError"})
        self.assertIs(errors.PinError.__bases__[0], ValueError)

    def test_each_is_directly_below_pin_error(self):
        for name in FIELDS:
            made = getattr(errors, name)
            with self.subTest(name):
                self.assertEqual(made.__bases__, (errors.PinError,))
                self.assertEqual(made.__name__, name)
                self.assertEqual(made.__module__, "sixpins.errors")

    def test_each_is_of_no_other_class(self):
        for name, fields in FIELDS.items():
            error = getattr(errors, name)(*["row"] * len(fields))
            self.assertIsInstance(error, errors.PinError)
            self.assertIsInstance(error, ValueError)
            for other in FIELDS:
                with self.subTest(name, other=other):
                    self.assertEqual(isinstance(error, getattr(errors, other)), other == name)
            for other in OTHERS:
                self.assertNotIsInstance(error, other)

    def test_fields_are_kept_by_place_and_by_name(self):
        for name, fields in FIELDS.items():
            made = getattr(errors, name)
            for at, value in enumerate(VALUES):
                values = [value, VALUES[at - 1]][:len(fields)]
                with self.subTest(name, at=at):
                    by_place = made(*values)
                    by_name = made(**dict(zip(fields, values)))
                    for field, kept in zip(fields, values):
                        self.assertIs(getattr(by_place, field), kept)
                        self.assertIs(getattr(by_name, field), kept)

    def test_too_many_by_name_in_any_order(self):
        error = errors.TooMany(most=40, what="rows")
        self.assertEqual((error.what, error.most), ("rows", 40))

    def test_a_list_stays_a_list(self):
        told = [1, 2]
        error = errors.Misfit(told)
        told.append(3)
        self.assertEqual(error.part, [1, 2, 3])

    def test_each_is_raised_and_caught(self):
        for name, fields in FIELDS.items():
            for base in (getattr(errors, name), errors.PinError, ValueError):
                with self.subTest(name, base=base.__name__), self.assertRaises(base):
                    raise getattr(errors, name)(*fields)

    def test_fields_are_asked_for(self):
        for name, fields in FIELDS.items():
            with self.subTest(name), self.assertRaises(TypeError):
                getattr(errors, name)()
            with self.subTest(name), self.assertRaises(TypeError):
                getattr(errors, name)(*fields, "more")


if __name__ == "__main__":
    unittest.main()

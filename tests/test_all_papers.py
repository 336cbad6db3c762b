"""What holds for every paper and denial of the package, whatever parts it is made with."""

import unittest
from importlib import import_module
from inspect import signature

from sixpins.papers import Denial, Paper
from sixpins.pins import Pins, Same
from sixpins.strokes import Surd
from sixpins.surface import Surface
from tests.interface import CLASSES
from tests.support import Case, ODD, Pair, Thing, listed
from tests.test_papers import nested
from tests.test_pins import FOUR

DENIALS = ("Same InLine Off Alike Breaks Unlike NoFlat Fallen OnCurve Still Halts Clash Crowd Extra Thin").split()


def paper_classes():
    """The classes of papers that the interface lists, with their parameters."""
    told = []
    for module, classes in CLASSES.items():
        for name, (parameters, _) in classes.items():
            made = getattr(import_module(f"sixpins.{module}"), name)
            if isinstance(made, type) and issubclass(made, Paper) and module != "papers":
                told.append((name, made, parameters.split()))
    return told


PAPERS = paper_classes()

# Values of many kinds, none of which equals another one.
VALUES = (0, 1, -5, 10 ** 40, "", "word", "[1]", None, 2.5, b"x", (), (1, 2), (1, (2, (3, ()))), ((1, 0), (0, 1)), Same(0, 1),
          Surd((1, 0, -2), 1), Pins(FOUR), Surface(Pins(FOUR)), nested(30, tuple))


class AllPapersTest(Case):

    def test_all_are_there(self):
        names = [name for name, _, _ in PAPERS]
        self.assertEqual(len(names), 38)
        self.assertEqual(sorted(name for name, made, _ in PAPERS if issubclass(made, Denial)), sorted(DENIALS))

    def test_by_place_and_by_name(self):
        for name, made, fields in PAPERS:
            for at in range(len(VALUES)):
                parts = [VALUES[(at + 3 * place) % len(VALUES)] for place in range(len(fields))]
                with self.subTest(name, at=at):
                    told = made(*parts)
                    self.check(told, name, fields, parts)
                    self.check(made(**dict(zip(fields, parts))), name, fields, parts)
                    self.check(made(*listed(parts)), name, fields, parts)
                    self.assertIs(told == made(*listed(parts)), True)
                    self.assertIs(told != made(**dict(zip(fields, parts))), False)

    def check(self, told, name, fields, parts):
        self.assertEqual(told.word, name.lower())
        self.assertEqual(told.parts, tuple(parts))
        self.assertIs(type(told.parts), tuple)
        self.assertIs(bool(told), name not in DENIALS)
        self.assertIs(isinstance(told, Denial), name in DENIALS)
        self.assertIsInstance(told, Paper)
        for field, part in zip(fields, parts):
            self.same(getattr(told, field), part)

    def test_parameters(self):
        for name, made, fields in PAPERS:
            self.assertEqual(list(signature(made).parameters), fields)

    def test_values_of_all_kinds_are_kept(self):
        for name, made, fields in PAPERS:
            if fields:
                for value in ODD + (Thing(), made, made(*[None] * len(fields))):
                    self.assertIs(getattr(made(*[value] * len(fields)), fields[-1]), value)
                    self.assertIs(getattr(made(*[[value]] * len(fields)), fields[0])[0], value)
                self.same(getattr(made(*[Pair([1], Pair(2, [3]))] * len(fields)), fields[0]), ((1,), (2, (3,))))
                inner = {"a": [1, [2]]}
                self.assertIs(getattr(made(*[[inner]] * len(fields)), fields[0])[0], inner)

    def test_one_part_bent(self):
        for name, made, fields in PAPERS:
            parts = [(place, (7, [place])) for place in range(len(fields))]
            told = made(*parts)
            for place in range(len(fields)):
                for other in (None, (place, (7, (place + 1,))), (place, (7,)), (place, 7, place), str(parts[place]), -1):
                    bent = made(*parts[:place], other, *parts[place + 1:])
                    self.assertIs(told == bent, False)
                    self.assertIs(told != bent, True)

    def test_unlike_classes_with_the_same_parts(self):
        for name, made, fields in PAPERS:
            for further, other, its in PAPERS:
                if len(fields) == len(its) and name != further:
                    parts = [1] * len(fields)
                    self.assertIs(made(*parts) == other(*parts), False)
                    self.assertIs(made(*parts) != other(*parts), True)
            for other in (Paper(name.lower(), *[1] * len(fields)), Denial(name.lower(), *[1] * len(fields)), None, name, True):
                self.assertIs(made(*[1] * len(fields)) == other, False)
                self.assertIs(other == made(*[1] * len(fields)), False)

    def test_lists_that_change_after_they_were_passed(self):
        for name, made, fields in PAPERS:
            if fields:
                inner = [2, [3]]
                parts = [[1, inner] for _ in fields]
                told = made(*parts)
                inner[1].append(4)
                inner.append(5)
                parts[0].append(6)
                self.check(told, name, fields, [(1, (2, (3,)))] * len(fields))

    def test_equal_as_python_compares_parts(self):
        for name, made, fields in PAPERS:
            if fields:
                self.assertIs(made(*[True] * len(fields)) == made(*[1] * len(fields)), True)
                self.assertIs(made(*[[1.0]] * len(fields)) == made(*[(1,)] * len(fields)), True)


if __name__ == "__main__":
    unittest.main()

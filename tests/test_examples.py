"""The examples of the document, in its order; names are kept from one example to the next."""

import unittest
from importlib import import_module
from pathlib import Path

from sixpins.errors import PinError
from tests.interface import CLASSES, FUNCTIONS, MODULES, WITHOUT_EXAMPLES
from tests.support import Case

FOLDER = Path(__file__).parent / "examples"


def interface_names():
    """All names of the interface that have landed."""
    told = {}
    for module in MODULES:
        place = import_module(f"sixpins.{module}")
        for name in [*FUNCTIONS.get(module, ()), *CLASSES.get(module, ())]:
            told[name] = getattr(place, name)
    return told


def read_examples(text):
    """Pairs of a row that is typed and the answer that is told, or None."""
    pairs = []
    for line in text.splitlines():
        if line.startswith(">>> "):
            pairs.append([line[4:], None])
        else:
            pairs[-1][1] = line
    return pairs


class ExamplesTest(Case):

    def test_examples(self):
        names = interface_names()
        many = 0
        for path in sorted(FOLDER.glob("*.txt")):
            for typed, told in read_examples(path.read_text("utf-8")):
                with self.subTest(path.name, typed=typed):
                    self.check(typed, told, names)
                many += 1
        self.assertGreater(many, 0)

    def check(self, typed, told, names):
        """One example does what is told."""
        if told is None:
            exec(typed, names)
        elif told.startswith("raises "):
            expected = eval(told.removeprefix("raises "), names)
            with self.assertRaises(PinError) as caught:
                eval(typed, names)
            self.assertIs(type(caught.exception), type(expected))
            self.assertEqual(vars(caught.exception), vars(expected))
        else:
            self.same(eval(typed, names), eval(told, names))

    def test_each_module_with_examples_has_a_file(self):
        told = [path.stem.partition("_")[2] for path in sorted(FOLDER.glob("*.txt"))]
        self.assertEqual(told, [module for module in MODULES if module not in WITHOUT_EXAMPLES])


if __name__ == "__main__":
    unittest.main()

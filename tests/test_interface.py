"""Each name of the interface stands in its own file, with the parameters that are told."""

import unittest
from importlib import import_module
from inspect import Parameter, isclass, isfunction, signature

from tests.interface import CLASSES, FUNCTIONS, METHODS, MODULES


def told_parameters(call):
    """The parameters of a call as the interface of these tests writes them."""
    words = []
    for told in signature(call).parameters.values():
        star = "*" if told.kind is Parameter.VAR_POSITIONAL else ""
        default = "" if told.default is Parameter.empty else f"={told.default!r}"
        words.append(star + told.name + default)
    return " ".join(words)


class InterfaceTest(unittest.TestCase):

    def test_functions(self):
        for module, functions in FUNCTIONS.items():
            place = import_module(f"sixpins.{module}")
            for name, parameters in functions.items():
                with self.subTest(module=module, name=name):
                    call = getattr(place, name)
                    self.assertTrue(isfunction(call))
                    self.assertEqual(call.__module__, f"sixpins.{module}")
                    self.assertEqual(told_parameters(call), parameters)

    def test_classes(self):
        for module, classes in CLASSES.items():
            place = import_module(f"sixpins.{module}")
            for name, (parameters, methods) in classes.items():
                with self.subTest(module=module, name=name):
                    made = getattr(place, name)
                    self.assertTrue(isclass(made))
                    self.assertEqual(made.__module__, f"sixpins.{module}")
                    self.assertEqual(told_parameters(made), parameters)
                    for method in methods:
                        self.assertIn(method, vars(made))

    def test_methods(self):
        for (module, name), methods in METHODS.items():
            made = getattr(import_module(f"sixpins.{module}"), name)
            for method, parameters in methods.items():
                with self.subTest(module=module, name=name, method=method):
                    told = told_parameters(getattr(made, method))
                    self.assertEqual(told.removeprefix("self").strip(), parameters)

    def test_modules(self):
        self.assertEqual(set(FUNCTIONS) | set(CLASSES), set(MODULES))


if __name__ == "__main__":
    unittest.main()

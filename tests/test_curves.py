"""The four curves of pins."""

import unittest

from sixpins.curves import curves
from sixpins.errors import BadPins
from sixpins.pins import Pins, judged_pins
from tests.support import Case, ODD, Source, is_reduced, reduced_by_hand, scaled, value_by_hand
from tests.test_pins import CASES, CHANGES, FOUR, changed, some_orders


class CurvesTest(Case):

    def check(self, spots):
        """All that is told of the curves of these pins; they are returned."""
        told = curves(Pins(spots))
        self.assertTrue(is_reduced(told, 10))
        self.assertEqual(len(told), 4)
        for form in told:
            self.assertEqual([value_by_hand(form, 3, 3, spot) for spot in spots], [0] * 6)
        return told

    def test_the_seven_cases(self):
        source = Source(91)
        for name, spots, _, _ in CASES:
            with self.subTest(name):
                told = self.check(spots)
                for order in some_orders(source):
                    turned = [scaled(spots[pin], -2) for pin in order]
                    self.same(self.check(turned), told)
                for change in CHANGES:
                    self.check(changed(change, spots))

    def test_pins_that_are_other_spots_have_other_curves(self):
        told = [curves(Pins(spots)) for _, spots, _, _ in CASES]
        self.assertEqual(len(set(told)), len(CASES))

    def test_they_span_all_forms_through_the_pins(self):
        # Products of a line through two pins with a form of second degree through the others.
        told = curves(Pins(FOUR))
        for form in ((0, 1, 0, 1, 0, 0, 0, 0, 0, 0), (0, 2, 3, 2, 5, 3, 0, 7, 7, 0)):
            self.assertEqual([value_by_hand(form, 3, 3, spot) for spot in FOUR], [0] * 6)
            self.assertEqual(reduced_by_hand([*told, form], 10), told)

    def test_long_integers(self):
        self.check([(1, 10 ** 6 - k, 999_983 + 7 * k * k) for k in range(6)])

    def test_by_name(self):
        self.same(curves(pins=Pins(FOUR)), curves(Pins(FOUR)))

    def test_no_pins(self):
        for value in ODD + (5, FOUR, list(FOUR), str(Pins(FOUR)), judged_pins(FOUR), Pins):
            self.refused(BadPins, "pins", curves, value)


if __name__ == "__main__":
    unittest.main()

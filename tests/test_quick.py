"""The answers that take the longest take few steps.

A clock would tell something else each time; how many functions are called is
the same each time, under each Python. The bounds leave room, but not for what
these answers once took: some 3,600 calls for a surface, 9,400 to look through
what shows all lines, 18,000 for all arrays.
"""

import sys
import unittest

from sixpins.check_lines import shows_all
from sixpins.check_peaks import shows_peaks
from sixpins.lines import told_lines
from sixpins.names import all_arrays, all_sixes
from sixpins.noother import no_other_line
from sixpins.peaks import no_other_peak, told_peaks
from sixpins.pins import Pins
from sixpins.surface import Surface
from tests.samples import CORNERS, drawn_pins

PINS = Pins([[1, 0, 0], [0, 1, 0], [0, 0, 1], [1, 1, 1], [1, 2, 3], [2, 5, 9]])


def many_calls(call, *args):
    """How many functions of Python a call calls; those that stand for comprehensions are left out."""
    told = [0]

    def seen(frame, event, _):
        told[0] += event == "call" and not frame.f_code.co_name.startswith("<")

    before = sys.getprofile()
    sys.setprofile(seen)
    try:
        call(*args)
    finally:
        sys.setprofile(before)
    return told[0]


class QuickTest(unittest.TestCase):

    def within(self, most, call, *args):
        self.assertLessEqual(many_calls(call, *args), most)

    def test_surfaces(self):
        self.within(150, Pins, PINS.spots)
        self.within(1800, Surface, PINS)
        self.within(2500, Surface, drawn_pins(22))

    def test_lists_of_names(self):
        self.within(5, all_arrays)
        self.within(5, all_sixes)

    def test_what_shows_all_lines(self):
        for surface in (Surface(PINS), Surface(drawn_pins(23))):
            lines = [row[1] for row in told_lines(surface)]
            self.within(800, no_other_line, surface)
            self.within(3300, shows_all, surface.form, lines, no_other_line(surface))

    def test_what_shows_all_peaks(self):
        for surface in (Surface(PINS), Surface(drawn_pins(24)), CORNERS):
            places = [peak.place for peak in told_peaks(surface)]
            self.within(1700, no_other_peak, surface)
            self.within(4300, shows_peaks, surface.form, places, no_other_peak(surface))


if __name__ == "__main__":
    unittest.main()

"""Long integers: six digits in pins and spots, thirty elsewhere, and what the package returned passed on."""

import unittest

from sixpins.changes import changed_form, judged_flat, led_line, led_pins, lifted, settled_pins
from sixpins.check_lines import shows_all
from sixpins.check_peaks import shows_peaks
from sixpins.check_primes import shows_prime
from sixpins.downs import judged_down, judged_move
from sixpins.forms import lies
from sixpins.kernels import kernel, rank, reduced
from sixpins.lines import line_of, told_lines
from sixpins.matrices import carried_matrix, determinant_form, judged_matrix, told_across
from sixpins.names import all_arrays, all_names
from sixpins.noother import no_other_line
from sixpins.outlines import outline_of
from sixpins.peaks import no_other_peak, told_peaks
from sixpins.pins import Pins
from sixpins.planes import told_planes
from sixpins.primes import judged_prime
from sixpins.renamings import Renaming
from sixpins.runs import Run
from sixpins.strokes import Stroke, Surd, compared_times
from sixpins.surface import Surface
from sixpins.tables import multiplied, undone
from sixpins.ways import way_of
from tests.samples import LONG, drawn_pins
from tests.support import Case, Source, dotted, scaled, sum_of
from tests.test_changes import drawn_change
from tests.test_downs import WHOLE
from tests.test_pins import CASES, changed
from tests.test_runs import drawn_rows
from tests.test_strokes import near, pair

SIX_DIGITS = [Pins(changed(LONG, spots)) for _, spots, _, _ in CASES] + [drawn_pins(21)]


class LongTest(Case):

    def check(self, pins):
        """What most answers hang on, for pins with long integers."""
        surface = Surface(pins)
        lines = [row[1] for row in told_lines(surface)]
        self.assertEqual(sum(row[2] for row in told_lines(surface)), 27)
        self.assertTrue(all(lies(surface.form, line) for line in lines))
        self.assertIs(shows_all(surface.form, lines, no_other_line(surface)), True)
        places = [peak.place for peak in told_peaks(surface)]
        self.assertIs(shows_peaks(surface.form, places, no_other_peak(surface)), True)
        self.assertEqual(sum(row[2] for row in told_planes(surface)), 45)
        return surface

    def test_surfaces(self):
        for pins in SIX_DIGITS:
            surface = self.check(pins)
            outline = outline_of(surface, surface.place_of((999_999, -123_456, 777_777)))
            self.assertEqual(len(outline.touches), len(told_lines(surface)) + 1)
            for array in all_arrays()[::40]:
                self.assertIn(way_of(surface, array).word, ("way", "alike"))
            self.assertIs(shows_prime(pins, 31, judged_prime(pins, 31)), True)

    def test_pins_across_and_across_from_there(self):
        for pins in SIX_DIGITS:
            over = told_across(Surface(pins))
            surface = self.check(over.pins)
            again = told_across(surface)
            self.assertEqual(judged_flat(again.pins, pins).word, "flat")
            self.assertEqual(settled_pins(again.pins).pins, settled_pins(pins).pins)
            matrix = judged_matrix(surface)
            if matrix:
                self.assertEqual(determinant_form(surface.matrix), tuple(scaled(surface.form, matrix.scale)))

    def test_pins_that_came_down(self):
        for pins in SIX_DIGITS:
            surface = Surface(pins)
            six = told_across(surface).names
            down = judged_down(surface, Renaming(six))
            later = self.check(down.pins)
            back = judged_down(later, Renaming(six).undone())
            self.assertEqual(back.pins, settled_pins(pins).pins)
            self.assertIn(judged_move(later, Renaming(six)).word, ("move", "noflat", "unlike", "fallen"))
            self.assertIn(carried_matrix(surface, Renaming(six)).word, ("carried", "oncurve"))
        smooth = Surface(SIX_DIGITS[-1])
        self.assertEqual(judged_down(Surface(judged_down(smooth, WHOLE).pins), WHOLE).degree, 5)

    def test_changes_of_thirty_digits(self):
        source = Source(471)
        for pins in (SIX_DIGITS[0], SIX_DIGITS[4]):
            change = drawn_change(source, 3, 10 ** 30)
            told = lifted(pins, change)
            self.assertEqual(told.pins, led_pins(pins, change))
            surface, later = Surface(pins), self.check(told.pins)
            self.assertEqual(changed_form(surface.form, told.change), later.form)
            for name in all_names()[::5]:
                self.assertEqual(led_line(told.change, line_of(surface, name)), line_of(later, name))
            further = drawn_change(source, 4, 10 ** 30)
            form = changed_form(surface.form, further)
            self.assertEqual(changed_form(form, undone(further)), surface.form)
            both = multiplied(further, told.change)
            self.assertEqual(changed_form(later.form, undone(both)),
                             changed_form(changed_form(later.form, undone(further)), undone(told.change)))

    def test_strokes_at_moments_and_midway(self):
        source = Source(472)
        for pins in SIX_DIGITS:
            stroke = Stroke(pins, 2, source.nonzero(3, 999_999))
            times = [near(row[0], 20) for row in stroke.moments if isinstance(row[0], Surd)]
            times += [near(row[0]) for row in stroke.moments if not isinstance(row[0], Surd) and row[2] is None]
            for one, other in zip(times, times[1:]):
                middle = (one + other) / 2
                self.assertEqual(stroke.bars_at(pair(middle)), stroke.pins_at(pair(middle)).bars)
            for row in stroke.moments[:2]:
                if not isinstance(row[0], Surd) and row[2] is None:
                    self.check(stroke.pins_at(row[0]))
            for row, further in zip(stroke.moments, stroke.moments[1:]):
                self.assertEqual(compared_times(row[0], further[0]), -1)

    def test_runs_of_forty_strokes(self):
        source = Source(473)
        run = Run(SIX_DIGITS[3], drawn_rows(source, SIX_DIGITS[3], 40, 999_999))
        self.assertEqual((len(run), run.back().last), (40, SIX_DIGITS[3]))
        self.check(run.last)

    def test_rows_that_were_returned(self):
        source = Source(474)
        rows = [source.row(30, 10 ** 30) for _ in range(12)]
        basis, free = reduced(rows, 30), kernel(rows, 30)
        self.assertEqual((len(basis), len(free)), (12, 18))
        self.assertEqual(kernel(free, 30), basis)
        sums = [sum_of((123_456, -654_321), pair) for pair in zip(basis, basis[1:] + basis[:1])]
        self.assertEqual(reduced(sums, 30), basis)
        self.assertEqual(rank(basis + free, 30), 30)
        self.assertTrue(all(dotted(one, other) == 0 for one in rows for other in free))


if __name__ == "__main__":
    unittest.main()

"""Peaks, touching planes, common forms, and what shows that there is no other peak."""

import unittest

from sixpins.check_peaks import shows_peaks
from sixpins.errors import BadForm, BadRow, BadSurface, Misfit
from sixpins.falls import standing_names
from sixpins.fans import Fan
from sixpins.forms import form_product, slope_of, value_of
from sixpins.lines import line_of, names_on, told_lines
from sixpins.names import all_trios
from sixpins.noother import NoOther, no_other_line
from sixpins.papers import Denial, Paper
from sixpins.peaks import NoOtherPeak, Peak, common_along, no_other_peak, told_peaks, touching_plane
from sixpins.pins import Pins
from sixpins.planes import plane_of_trio, told_planes
from sixpins.surface import Surface
from tests.samples import CORNERS, NO_SURFACES, PLAINEST, SURFACES, drawn_pins, shuffled
from tests.support import (Case, ODD, Source, determinant_by_hand, dotted, is_reduced, kinds, listed,
                           plain_by_hand, reduced_by_hand, scaled, sum_of, value_by_hand, wrong_rows)
from tests.test_check_lines import PARTS, TENTS, truths
from tests.test_fans import EDGES, PLANES, TENT, wrong_forms
from tests.test_lines import has
from tests.test_pins import BENT
from tests.test_space import other_rows, two_places, wrong_lines
from tests.test_surface import bar_lines, cross, cubic_at, drawn_line, spots_of, touching


def slopes_of(form):
    """The four slopes of a form of third degree in space, worked out by their values."""
    return [slope_of(form, 4, 3, letter) for letter in range(4)]


def is_peak(form, place):
    """Whether all four slopes are 0 at the place."""
    return not any(value_by_hand(slope, 4, 2, place) for slope in slopes_of(form))


def peaks_by_hand(surface):
    """The places to which the bars shrink, with the bars."""
    pins, told = surface.pins, {}
    for bar in pins.bars:
        if bar == BENT:
            place = surface.place_at(0, touching(pins, 0))
        else:
            line = [its for its in bar_lines(pins)
                    if [int(dotted(its, spot) == 0) for spot in pins.spots] == list(bar[1:])][0]
            spots = [cross(line, further) for further in ((1, 3, 7), (2, -5, 3), (5, 1, -4))]
            place = [surface.place_of(spot) for spot in spots if spot not in pins.spots][0]
        told.setdefault(place, []).append(bar)
    return told


def common_by_hand(form, line):
    """The common form, sought among what divides all four slopes on the line."""
    rows = []
    for slope in slopes_of(form):
        ss, both, tt = [value_by_hand(slope, 4, 2, row) for row in (line[0], sum_of((1, 1), line), line[1])]
        rows.append((ss, both - ss - tt, tt))
    reduced = reduced_by_hand(rows, 3)
    if len(reduced) < 2:
        return reduced[0] if reduced else ()
    if len(reduced) == 3:
        return (1,)
    # What divides two forms of second degree divides each sum of them that has no ss, or no tt.
    one, other = reduced
    first = (other[1], other[2]) if other[0] == 0 else None
    for factor in [first] * (first is not None and any(first)) + [(1, 0), (0, 1)]:
        root = (factor[1], -factor[0])
        if all(ss * root[0] ** 2 + st * root[0] * root[1] + tt * root[1] ** 2 == 0 for ss, st, tt in (one, other)):
            return plain_by_hand(factor)
    return (1,)


class ToldPeaksTest(Case):

    def check(self, surface):
        """All that is told of the peaks of a surface."""
        told = told_peaks(surface)
        expected = peaks_by_hand(surface)
        self.same([peak.place for peak in told], sorted(expected))
        for peak in told:
            self.assertIs(type(peak), Peak)
            self.same(peak.bars, tuple(sorted(expected[peak.place])))
            self.assertTrue(is_peak(surface.form, peak.place))
            self.check_cone(surface, peak)
        self.assertEqual(len(told), 1 if surface.pins.kind == (2,) else len(surface.pins.bars))
        self.assertEqual(sum(len(peak.bars) for peak in told), len(surface.pins.bars))

    def check_cone(self, surface, peak):
        """F(p + s q) is s s Q(q) + s s s F(q)."""
        self.same(peak.cone, plain_by_hand(peak.cone))
        source, ratio = Source(231), None
        for _ in range(8):
            row = source.row(4, 6)
            value = cubic_at(surface.form, sum_of((1, 1), (peak.place, row))) - cubic_at(surface.form, row)
            cone = value_by_hand(peak.cone, 4, 2, row)
            self.assertEqual(value == 0, cone == 0)
            ratio = ratio or (cone and (value, cone))
            self.assertEqual(value * (ratio or (1, 0))[1], cone * (ratio or (0, 1))[0])
        self.assertTrue(ratio)
        through = [(line, weight) for name, line, weight in told_lines(surface) if has(line, peak.place)]
        for line, _ in through:
            for row in line:
                self.assertEqual(value_by_hand(peak.cone, 4, 2, row), 0)
        if len(peak.bars) == 1:
            self.assertEqual(sum(weight for _, weight in through), 12)
        else:
            planes = [plane for plane, lines, weight in told_planes(surface) if weight == 6]
            self.same(peak.cone, plain_by_hand(form_product(*planes, 4, 1, 1)))

    def test_the_seven_cases(self):
        for name, surface in SURFACES:
            with self.subTest(name):
                self.check(surface)

    def test_other_orders_rows_and_changes(self):
        for name, spots in shuffled(232):
            with self.subTest(name):
                self.check(Surface(Pins(spots)))

    def test_known_peaks(self):
        self.same(told_peaks(PLAINEST), ())
        told = told_peaks(CORNERS)
        self.same(told[3].parts, ((1, 1, -1, 1), ((1, 0, 0, 0, 1, 1, 1),), (0, 1, 2, 1, 0, 2, 1, 3, 2, 0)))
        self.assertEqual(told_peaks(surface=CORNERS), told)

    def test_papers(self):
        peak = Peak([1, 2], [[3]], [4])
        self.assertEqual((peak.word, bool(peak)), ("peak", True))
        self.same((peak.place, peak.bars, peak.cone, peak.parts), ((1, 2), ((3,),), (4,), ((1, 2), ((3,),), (4,))))
        self.assertEqual(Peak(cone=[4], bars=((3,),), place=(1, 2)), peak)
        told = NoOtherPeak([1], 2, [3])
        self.assertEqual((told.word, bool(told)), ("nootherpeak", True))
        self.same((told.lines, told.alone, told.commons, told.parts), ((1,), 2, (3,), ((1,), 2, (3,))))
        self.assertEqual(NoOtherPeak(commons=[3], alone=2, lines=[1]), told)
        self.assertNotIsInstance(told, Denial)

    def test_errors(self):
        for value in NO_SURFACES:
            self.refused(BadSurface, "surface", told_peaks, value)
            self.refused(BadSurface, "surface", no_other_peak, value)


class TouchingTest(Case):

    def test_places_that_are_no_peaks(self):
        source = Source(241)
        for name, surface in SURFACES:
            peaks = [peak.place for peak in told_peaks(surface)]
            places = [surface.place_of(spot) for spot in spots_of(source, surface.pins)]
            places += [surface.place_at(pin, drawn_line(source, surface.pins.spots[pin])) for pin in range(6)]
            for place in places:
                if place in peaks:
                    self.refused(Misfit, "place", touching_plane, surface, scaled(place, 2))
                else:
                    self.check(surface, place)

    def check(self, surface, place):
        plane = touching_plane(surface, place)
        self.same(plane, plain_by_hand([value_by_hand(slope, 4, 2, place) for slope in slopes_of(surface.form)]))
        self.assertEqual(dotted(plane, place), 0)
        self.same(touching_plane(surface, scaled(place, -3)), plane)
        for one in names_on(surface, place):
            for row in line_of(surface, one):
                self.assertEqual(dotted(plane, row), 0)

    def test_planes_that_have_a_line_twice(self):
        # Such a plane touches the surface in all places of the line that are no peaks.
        for name, surface in SURFACES[1:]:
            for trio in all_trios():
                lines = [line_of(surface, one) for one in trio]
                twice = [line for line in lines if lines.count(line) == 2]
                if twice:
                    place = sum_of((2, 5), twice[0])
                    if not is_peak(surface.form, place):
                        self.same(touching_plane(surface, place), plane_of_trio(surface, trio))

    def test_six_digits(self):
        surface = Surface(drawn_pins(10))
        self.check(surface, surface.place_of((1, 2, 3)))

    def test_known_planes(self):
        self.same(touching_plane(CORNERS, (2, 0, -1, 0)), (1, 1, 2, 1))
        self.same(touching_plane(place=[-2, -2, 2, -1], surface=CORNERS), (1, 1, 2, 0))

    def test_errors(self):
        for value in NO_SURFACES:
            self.refused(BadSurface, "surface", touching_plane, value, (1, 0, 0, 0))
            self.refused(BadSurface, "surface", touching_plane, value, (0, 0, 0, 0))
        for value in wrong_rows(4):
            self.refused(BadRow, "place", touching_plane, CORNERS, value)
        for place in ((1, 0, 0, 0), (0, 0, 0, -4), (1, 1, -1, 1), (1, 1, 1, 1), [0, 0, 1, 0]):
            self.refused(Misfit, "place", touching_plane, CORNERS, place)


class CommonTest(Case):

    def check(self, form, line):
        told = common_along(form, line)
        self.same(told, common_by_hand(form, line))
        return told

    def test_lines_of_surfaces(self):
        source = Source(251)
        for name, surface in SURFACES:
            peaks = [peak.place for peak in told_peaks(surface)]
            for one, line, weight in told_lines(surface):
                told = self.check(surface.form, line)
                self.assertEqual(len(told) - 1, {1: 0, 2: 1, 3: 1, 4: 2}[weight])
                self.same(common_along(listed(surface.form), other_rows(source, line)), told)
                # It is 0 just at the peaks on the line.
                for peak in peaks:
                    if has(line, peak):
                        leads = [[at for at, number in enumerate(row) if number][0] for row in line]
                        m, n = peak[leads[0]] * line[1][leads[1]], peak[leads[1]] * line[0][leads[0]]
                        self.assertEqual(value_of(told, 2, len(told) - 1, (m, n)), 0)

    def test_any_lines(self):
        source = Source(252)
        degrees = []
        for name, surface in SURFACES:
            for _ in range(6):
                line = reduced_by_hand(two_places(source), 4)
                degrees.append(len(self.check(surface.form, line)))
            for peak in told_peaks(surface):
                line = reduced_by_hand([peak.place, (1, 2, -3, 4)], 4)
                degrees.append(len(self.check(surface.form, line)))
        self.assertEqual(set(degrees), {1, 2})

    def test_any_forms(self):
        source = Source(253)
        degrees = set()
        for _ in range(60):
            line = reduced_by_hand(two_places(source, 2), 4)
            plane, further = source.nonzero(4, 1), source.nonzero(4, 1)
            for form in (form_product(plane, form_product(further, further, 4, 1, 1), 4, 1, 2),
                         form_product(plane, source.nonzero(10, 1), 4, 1, 2),
                         form_product(plane, form_product(plane, plane, 4, 1, 1), 4, 1, 2)):
                degrees.add(len(self.check(form, line)))
        self.assertEqual(degrees, {0, 1, 2, 3})

    def test_known_ones(self):
        cube = (1,) + (0,) * 19
        self.same(common_along(cube, [(1, 0, 0, 0), (0, 1, 0, 0)]), (1, 0, 0))
        self.same(common_along(cube, [(0, 1, 0, 0), (0, 0, 1, 0)]), ())
        self.same(common_along(CORNERS.form, [(1, 0, 0, 0), (0, 0, 1, 0)]), (0, 1))
        self.same(common_along(line=line_of(CORNERS, "p5"), form=CORNERS.form), (0, 1, -1))
        # a a c + b b c + c c c: along c = d = 0 it is ss + tt, of which no fraction is a root.
        form = [0] * 20
        form[2], form[11], form[16] = 1, 1, 1
        self.same(common_along(form, [(1, 0, 0, 0), (0, 1, 0, 0)]), (1, 0, 1))

    def test_errors(self):
        line = line_of(CORNERS, "p0")
        for value in wrong_forms():
            self.refused(BadForm, "form", common_along, value, line)
            self.refused(BadForm, "form", common_along, line=None, form=value)
        for value in wrong_lines():
            self.refused(BadRow, "line", common_along, CORNERS.form, value)


class ShowsPeaksTest(Case):

    def shown(self, form, places, value, whether):
        self.assertIs(shows_peaks(form, places, value), whether)

    def check(self, surface):
        """A NoOtherPeak of a surface is shown, with the places in any order."""
        told = no_other_peak(surface)
        self.assertIs(type(told), NoOtherPeak)
        self.same(told.lines, tuple(line for _, line, _ in told_lines(surface)))
        self.same(told.commons, tuple(common_along(surface.form, line) for line in told.lines))
        self.assertIs(type(told.alone), NoOther)
        places = [peak.place for peak in told_peaks(surface)]
        self.shown(surface.form, places, told, True)
        self.shown(listed(surface.form), [scaled(place, -2) for place in places[::-1]], told, True)
        self.assertEqual(no_other_peak(Surface(Pins(listed(surface.pins.spots)))), told)
        return places, told

    def test_the_seven_cases(self):
        for name, surface in SURFACES:
            with self.subTest(name):
                places, told = self.check(surface)
                self.check_places(surface, places, told)
                self.check_papers(surface, places, told)

    def test_other_orders_rows_and_changes(self):
        for name, spots in shuffled(261):
            with self.subTest(name):
                self.check(Surface(Pins(spots)))

    def test_drawn_pins_with_six_digits(self):
        self.check(Surface(drawn_pins(11)))

    def check_places(self, surface, places, told):
        """A place left out, told twice, or another one put in."""
        further = surface.place_of((3, -7, 5))
        self.assertFalse(is_peak(surface.form, further))
        for at, place in enumerate(places):
            rest = places[:at] + places[at + 1:]
            self.shown(surface.form, rest, told, False)
            self.shown(surface.form, places + [place], told, False)
            self.shown(surface.form, places + [scaled(place, -1)], told, False)
            self.shown(surface.form, rest + [further], told, False)
        for place in (further, (1, 2, 3, 4)):
            if not is_peak(surface.form, place):
                self.shown(surface.form, places + [place], told, False)
        self.shown(surface.form, [], told, not places)

    def check_papers(self, surface, places, told):
        """A changed line, common form or NoOther."""
        lines, alone, commons = told.parts
        form = surface.form
        order = Source(262)
        drawn = sorted(range(len(lines)), key=lambda at: order.below(100))
        self.shown(form, places, NoOtherPeak([lines[at] for at in drawn], alone, [commons[at] for at in drawn]), True)
        changed = [(lines[1:], alone, commons[1:]), (lines, alone, commons[1:]), (lines[1:], alone, commons),
                   (lines + lines[:1], alone, commons + commons[:1]), (lines, alone, commons + commons[:1]),
                   ((lines[0][::-1],) + lines[1:], alone, commons), (lines, None, commons), (lines, lines, commons),
                   (lines, NoOther(alone.plane, alone.lines, alone.fans[1:]), commons), (lines, alone, None),
                   (lines, NoOther((1, 2, 3, 4), alone.lines, alone.fans), commons), (None, alone, commons)]
        for at in (0, 3, len(commons) - 1):
            for other in ((), (1,), (1, 0), (0, 1), (1, 1), (1, 0, 0), (0, 1, 0), (2,), (-1,), (True,), 1, None,
                          tuple(scaled(commons[at], -1)), tuple(scaled(commons[at], 2)), commons[at] + (0,), [None]):
                if (other, kinds(other)) != (commons[at], kinds(commons[at])):
                    changed.append((lines, alone, commons[:at] + (other,) + commons[at + 1:]))
            line = ((1, 2, 3, 4), (4, 3, 2, 2))
            changed.append((lines[:at] + (line,) + lines[at + 1:], alone, commons))
        for parts in changed:
            self.shown(form, places, NoOtherPeak(*parts), False)
        self.shown(scaled(form, -1), places, told, False)

    def test_places_that_are_no_peaks(self):
        places = [peak.place for peak in told_peaks(CORNERS)]
        told = no_other_peak(CORNERS)
        for place in ((0, 1, 0, 7), (0, 0, 1, -2), (0, 0, 1, 0), (1, -1, 0, 0), (2, 2, 1, 2), (1, 1, 0, 0)):
            self.shown(CORNERS.form, places + [place], told, False)
            self.shown(CORNERS.form, [place] + places, told, False)

    def test_another_form(self):
        for name, surface in SURFACES:
            places, told = self.check(surface)
            for at in (3, 6, 11, 19):
                form = list(surface.form)
                form[at] += 1
                self.shown(form, places, told, False)

    def test_forms_that_are_no_surface_of_pins(self):
        # w0 w1 w2 + w3 w3 w3 has three peaks, one in each two of its three lines.
        alone = NoOther((0, 0, 0, 1), EDGES, TENTS)
        peaks = [(1, 0, 0, 0), (0, 1, 0, 0), (0, 0, 1, 0)]
        told = NoOtherPeak(EDGES, alone, [(0, 1, 0)] * 3)
        self.shown(TENT, peaks, told, True)
        self.shown(TENT, peaks[::-1], told, True)
        for at in range(3):
            self.shown(TENT, peaks[:at] + peaks[at + 1:], told, False)
        self.shown(TENT, peaks, NoOtherPeak(EDGES, alone, [(0, 1, 0)] * 2), False)
        self.shown(PLANES, peaks, told, False)

    def test_true_and_false_are_no_integers(self):
        places = [peak.place for peak in told_peaks(CORNERS)]
        told = no_other_peak(CORNERS)
        self.shown(CORNERS.form, places, told, True)
        for lines in truths(told.lines)[::5]:
            self.shown(CORNERS.form, places, NoOtherPeak(lines, told.alone, told.commons), False)
        for commons in truths(told.commons):
            self.assertEqual(NoOtherPeak(told.lines, told.alone, commons), told)
            self.shown(CORNERS.form, places, NoOtherPeak(told.lines, told.alone, commons), False)
        fans = told.alone.fans
        for parts in truths(fans[0].parts)[::5]:
            alone = NoOther(told.alone.plane, told.alone.lines, (Fan(*parts), *fans[1:]))
            self.shown(CORNERS.form, places, NoOtherPeak(told.lines, alone, told.commons), False)

    def test_values_of_all_kinds(self):
        places = [peak.place for peak in told_peaks(CORNERS)]
        told = no_other_peak(CORNERS)
        for value in (*PARTS, CORNERS, told.parts, Paper("nootherpeak", *told.parts), [told], NoOtherPeak, told.alone,
                      Peak(*told.parts)):
            self.shown(CORNERS.form, places, value, False)
            for at in range(3):
                if value is not told.alone:
                    parts = told.parts[:at] + (value,) + told.parts[at + 1:]
                    self.shown(CORNERS.form, places, NoOtherPeak(*parts), False)
            self.shown(CORNERS.form, places, NoOtherPeak((value, *told.lines[1:]), told.alone, told.commons), False)
            self.shown(CORNERS.form, places, NoOtherPeak(told.lines, told.alone, (value, *told.commons[1:])), False)

    def test_errors(self):
        places = [peak.place for peak in told_peaks(CORNERS)]
        told = no_other_peak(CORNERS)
        for value in wrong_forms():
            self.refused(BadForm, "form", shows_peaks, value, places, told)
            self.refused(BadForm, "form", shows_peaks, value, None, None)
        for value in ODD + (3, (1, 0, 0, 0), [(1, 0, 0)], told):
            self.refused(BadRow, "places", shows_peaks, CORNERS.form, value, told)
        for value in wrong_rows(4):
            self.refused(BadRow, "places", shows_peaks, CORNERS.form, [value], None)
            self.refused(BadRow, "places", shows_peaks, CORNERS.form, [*places, value], told)
        self.assertIs(shows_peaks(value=told, places=tuple(places), form=CORNERS.form), True)


class FactsTest(Case):

    def test_each_two_rows_of_a_told_line_are_reduced(self):
        for name, surface in SURFACES:
            told = no_other_peak(surface)
            self.assertEqual(len(told.lines), len(standing_names(surface.pins)))
            self.assertTrue(all(is_reduced(line, 4) for line in told.lines))
            self.assertEqual(told.alone, no_other_line(surface))

    def test_cones_of_one_bar_are_no_product(self):
        # The determinant of all second slopes is 0 at a cone in three letters; a further one is not.
        for name, surface in SURFACES[1:]:
            for peak in told_peaks(surface):
                slopes = [slope_of(peak.cone, 4, 2, letter) for letter in range(4)]
                rank = len(reduced_by_hand(slopes, 4))
                self.assertEqual(determinant_by_hand(slopes), 0)
                self.assertEqual(rank, 4 - len(peak.bars))


if __name__ == "__main__":
    unittest.main()

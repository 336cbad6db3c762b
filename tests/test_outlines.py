"""Outlines: what is seen of a surface's rim from one of its places, and what touches it twice."""

import unittest

from sixpins.errors import BadForm, BadRow, BadSurface, Misfit
from sixpins.falls import standing_names
from sixpins.forms import form_product, pulled_form, value_of
from sixpins.kernels import kernel, reduced
from sixpins.lines import line_of, names_on
from sixpins.outlines import Outline, outline_form, outline_of, seen_from
from sixpins.papers import Denial, Paper
from sixpins.peaks import told_peaks, touching_plane
from sixpins.pins import Pins
from sixpins.planes import told_planes
from sixpins.space import on_plane
from sixpins.surface import Surface
from tests.samples import CORNERS, NO_SURFACES, PLAINEST, SURFACES, drawn_pins, shuffled
from tests.support import (Case, Source, dotted, listed, plain_by_hand, rank_by_hand, scaled, sum_of, value_by_hand,
                           wrong_rows)
from tests.test_fans import wrong_forms
from tests.test_surface import cubic_at, drawn_line, spots_of


def parts_at(form, place, row):
    """L, Q and F at a row, by the values of the form at place + s row."""
    at = [cubic_at(form, sum_of((1, s), (place, row))) for s in (-1, 1)]
    third = cubic_at(form, row)
    return (at[1] - at[0]) // 2 - third, (at[0] + at[1]) // 2, third


def outline_at(form, place, row):
    """O(q) at a row, by the values of the form."""
    first, second, third = parts_at(form, place, row)
    return second * second - 4 * first * third


def kept_by_hand(place):
    """The places of 0 to 3 but the leading place, and this one."""
    lead = [at for at, number in enumerate(place) if number][0]
    return [at for at in range(4) if at != lead], lead


def places_of(source, surface):
    """Places of a surface: of spots on no bar, on lines, and peaks."""
    told = [surface.place_of(spot) for spot in spots_of(source, surface.pins)[::4]]
    told += [surface.place_at(pin, drawn_line(source, surface.pins.spots[pin])) for pin in (0, 4)]
    for name in standing_names(surface.pins)[::5]:
        told += [plain_by_hand(sum_of((1, source.within(1, 5)), line_of(surface, name)))]
    return told + [peak.place for peak in told_peaks(surface)]


class OutlineFormTest(Case):

    def check(self, form, place):
        told = outline_form(form, place)
        self.assertIs(type(told), tuple)
        self.assertEqual((len(told), {type(number) for number in told}), (15, {int}))
        source = Source(371)
        place = plain_by_hand(place)
        kept, lead = kept_by_hand(place)
        for _ in range(16):
            letters = source.row(3, 5)
            row = [0] * 4
            for at, number in zip(kept, letters):
                row[at] = number
            self.assertEqual(value_by_hand(told, 3, 4, letters), outline_at(form, place, row))
            further = source.row(4, 5)
            direction = [place[lead] * further[at] - further[lead] * place[at] for at in kept]
            value = value_by_hand(told, 3, 4, direction)
            self.assertEqual(value, place[lead] ** 4 * outline_at(form, place, further))
            more = sum_of((1, 3), (further, place))
            self.assertEqual(outline_at(form, place, more), outline_at(form, place, further))
        self.same(outline_form(list(form), scaled(place, -3)), told)
        return told

    def test_surfaces(self):
        source = Source(372)
        for name, surface in SURFACES:
            for place in places_of(source, surface):
                with self.subTest(name, place=place):
                    self.check(surface.form, place)

    def test_forms_as_they_come(self):
        source = Source(373)
        for _ in range(10):
            # Any form, made 0 at a drawn place by its integer for the power of a letter there.
            form, at = list(source.nonzero(20, 9)), source.below(4)
            form[(0, 10, 16, 19)[at]] = 0
            place = [int(other == at) for other in range(4)]
            if any(form):
                told = self.check(form, place)
                self.same(outline_form(scaled(form, 7), place), tuple(scaled(told, 49)))
                self.same(outline_form(scaled(form, -1), place), told)

    def test_known(self):
        self.same(outline_form(CORNERS.form, (-4, 0, 2, 0)), (0, 0, 0, 0, 8, 4, 0, 16, 8, 0, 0, 0, 0, 0, 0))
        self.same(outline_form(place=(1, 0, 0, 0), form=CORNERS.form), (0, 0, 0, 0, 0, 1, 0, -2, 0, 0, 1, 0, 0, 0, 0))
        self.same(outline_form((1,) + (0,) * 19, (0, 1, 0, 0)), (0,) * 15)

    def test_errors(self):
        for value in wrong_forms():
            self.refused(BadForm, "form", outline_form, value, (1, 0, 0, 0))
            self.refused(BadForm, "form", outline_form, value, value)
        for value in wrong_rows(4):
            self.refused(BadRow, "place", outline_form, CORNERS.form, value)
        for place in ((1, 1, 1, 1), (2, 2, 2, 2), (0, 0, 1, 1)):
            self.refused(Misfit, "place", outline_form, CORNERS.form, place)


class SeenFromTest(Case):

    def test_directions(self):
        source = Source(374)
        for _ in range(60):
            place, other = source.nonzero(4, 4), source.nonzero(4, 9)
            if plain_by_hand(place) == plain_by_hand(other):
                continue
            kept, lead = kept_by_hand(place)
            told = seen_from(place, other)
            expected = [place[lead] * other[at] - other[lead] * place[at] for at in kept]
            self.same(told, plain_by_hand(expected))
            self.same(seen_from(scaled(place, -2), scaled(other, 3)), told)
            # All places of the line but the first one are seen in one direction.
            further = sum_of((3, -2), (place, other))
            if any(further):
                self.same(seen_from(list(place), list(further)), told)

    def test_known(self):
        self.same(seen_from((2, 0, -1, 0), (1, 1, -1, 1)), (2, -1, 2))
        self.same(seen_from(other=(3, 0, -6, 5), place=(0, 0, 0, 1)), (1, 0, -2))

    def test_errors(self):
        for value in wrong_rows(4):
            self.refused(BadRow, "place", seen_from, value, (1, 0, 0, 0))
            self.refused(BadRow, "place", seen_from, value, value)
            self.refused(BadRow, "other", seen_from, (1, 0, 0, 0), value)
        self.refused(Misfit, "other", seen_from, (2, 0, -1, 0), (-4, 0, 2, 0))
        self.refused(Misfit, "other", seen_from, (0, 0, 0, 1), (0, 0, 0, 1))


class OutlineTest(Case):

    def check(self, surface, place):
        """All that is told of the outline from a place of a surface that is no peak; it is returned."""
        told = outline_of(surface, place)
        self.assertIs(type(told), Outline)
        kept, lead = kept_by_hand(place)
        self.same(told.kept, tuple(kept))
        self.same(told.form, outline_form(surface.form, place))
        names = [name for name in standing_names(surface.pins) if name not in names_on(surface, place)]
        self.assertEqual([row[0] for row in told.touches], names + ["plane"])
        for name, row, root in told.touches:
            self.same(row, plain_by_hand(row))
            if name == "plane":
                plane = touching_plane(surface, place)
                basis = [other for other in kernel([plane], 4) if plain_by_hand(other) != plain_by_hand(place)]
            else:
                basis = list(line_of(surface, name)) + [sum_of((1, 1), line_of(surface, name))]
            for other in basis:
                self.assertEqual(dotted(row, seen_from(place, other)), 0)
            self.check_root(told.form, row, root)
        return told

    def check_root(self, form, row, root):
        """The root, times itself, is the outline form at the directions of the row."""
        basis = kernel([row], 3)
        self.same(reduced(basis, 3), basis)
        on = pulled_form(form, 3, 4, basis)
        self.assertEqual((type(root), [type(number) for number in root]), (tuple, [int] * 3))
        self.same(form_product(root, root, 2, 2, 2), on)
        for s, t in ((1, 0), (0, 1), (1, 1), (2, -3), (5, 1)):
            value = value_by_hand(form, 3, 4, sum_of((s, t), basis))
            self.assertEqual(value, (root[0] * s * s + root[1] * s * t + root[2] * t * t) ** 2)
        first = [number for number in root if number]
        self.assertTrue(not first or first[0] > 0)

    def test_the_seven_cases(self):
        source = Source(375)
        for name, surface in SURFACES:
            peaks = [peak.place for peak in told_peaks(surface)]
            for place in places_of(source, surface):
                with self.subTest(name, place=place):
                    if place in peaks:
                        self.refused(Misfit, "place", outline_of, surface, place)
                    else:
                        told = self.check(surface, place)
                        self.assertEqual(outline_of(surface, scaled(place, -2)), told)

    def test_other_orders_rows_and_changes(self):
        source = Source(376)
        for name, spots in shuffled(377):
            surface = Surface(Pins(spots))
            with self.subTest(name):
                self.check(surface, surface.place_of([spot for spot in spots_of(source, surface.pins)
                                                      if surface.back(surface.place_of(spot)).word == "spot"][0]))

    def test_six_digits(self):
        surface = Surface(drawn_pins(11))
        told = self.check(surface, surface.place_of((3, -4, 5)))
        self.assertEqual(len(told.touches), 28)

    def test_roots_of_zeros(self):
        # The root of a name is (0, 0, 0) exactly if the plane through the place has its line twice.
        source, many = Source(378), 0
        for name, surface in SURFACES:
            for place in places_of(source, surface):
                if place in [peak.place for peak in told_peaks(surface)]:
                    continue
                twice = [row[1] for row in told_planes(surface) if on_plane(row[0], place)]
                for touch, _, root in outline_of(surface, place).touches[:-1]:
                    line = line_of(surface, touch)
                    expected = any(lines.count(line) == 2 for lines in twice)
                    self.assertEqual(root == (0, 0, 0), expected)
                    many += expected
        self.assertGreater(many, 3)

    def test_lines_in_one_plane_with_the_place(self):
        source = Source(379)
        for name, surface in SURFACES:
            place = surface.place_of([spot for spot in spots_of(source, surface.pins)
                                      if surface.back(surface.place_of(spot)).word == "spot"][1])
            rows = {touch: row for touch, row, _ in outline_of(surface, place).touches}
            for one in list(rows)[:-1]:
                for other in list(rows)[:-1]:
                    both = line_of(surface, one) + line_of(surface, other) + (place,)
                    self.assertEqual(rows[one] == rows[other], rank_by_hand(both, 4) == 3)
        # On a line of the surface: its name has no touch, and the touching plane has the line.
        outline = outline_of(CORNERS, (2, 0, -1, 0))
        self.assertEqual([touch for touch, row, _ in outline.touches if row == outline.touches[-1][1]], ["j25", "plane"])

    def test_known(self):
        told = outline_of(place=(2, 0, -1, 0), surface=CORNERS)
        self.same(told.touches, (
            ("p0", (0, 0, 1), (0, 0, 0)), ("p1", (1, 0, 0), (0, 0, 0)), ("p2", (0, 1, 0), (0, 2, 0)),
            ("p3", (1, 2, 0), (0, 0, 0)), ("p4", (0, 2, 1), (0, 0, 0)), ("p5", (1, 0, -1), (2, 4, 0)),
            ("j25", (1, 2, 1), (2, 4, 0)), ("plane", (1, 2, 1), (2, 4, 0))))
        many = outline_of(PLAINEST, PLAINEST.place_of((2, 5, 9)))
        self.assertEqual(len({row for _, row, _ in many.touches}), 28)

    def test_what_touches_elsewhere_is_seen_on_the_outline(self):
        source, touched = Source(380), 0
        for name, surface in SURFACES:
            place = surface.place_of((3, -4, 5))
            outline = outline_form(surface.form, place)
            for other in places_of(source, surface):
                if other != place:
                    # The line through both touches at the other one if it is 0 twice there.
                    if surface.third(place, other) in (other, None):
                        self.assertEqual(value_of(outline, 3, 4, seen_from(place, other)), 0)
                        touched += 1
            for peak in told_peaks(surface):
                self.assertEqual(value_of(outline, 3, 4, seen_from(place, peak.place)), 0)
        self.assertGreater(touched, 5)

    def test_errors(self):
        for value in NO_SURFACES:
            self.refused(BadSurface, "surface", outline_of, value, (1, 0, 0, 0))
            self.refused(BadSurface, "surface", outline_of, value, value)
        for value in wrong_rows(4):
            self.refused(BadRow, "place", outline_of, CORNERS, value)
        for place in ((1, 0, 0, 0), (0, 0, 0, -2), (1, 1, -1, 1), (1, 1, 1, 1), (0, 0, 1, 0)):
            self.refused(Misfit, "place", outline_of, CORNERS, place)

    def test_paper(self):
        told = Outline([1, 2], [[3]], "x")
        self.assertEqual((told.word, bool(told), isinstance(told, Denial)), ("outline", True, False))
        self.assertIsInstance(told, Paper)
        self.same((told.kept, told.form, told.touches), ((1, 2), ((3,),), "x"))
        self.same(told.parts, ((1, 2), ((3,),), "x"))
        self.assertEqual(Outline(touches="x", form=((3,),), kept=(1, 2)), told)
        self.assertEqual(listed(told.parts), [[1, 2], [[3]], "x"])


if __name__ == "__main__":
    unittest.main()

"""The lines of the names."""

import unittest
from itertools import combinations

from sixpins.errors import BadName, BadRow, BadSurface, Misfit
from sixpins.falls import falls_on, standing_names, weights_of
from sixpins.forms import lies
from sixpins.lines import line_of, meeting_place, name_of_line, names_on, told_lines
from sixpins.pins import Pins
from sixpins.plane import seconds
from sixpins.space import is_line, meet, on_line
from sixpins.surface import Surface
from tests.samples import CORNERS, NO_NAMES, NO_SURFACES, PLAINEST, SURFACES, drawn_pins, shuffled
from tests.support import (Case, Source, determinant_by_hand, dotted, listed, plain_by_hand, rank_by_hand,
                           reduced_by_hand, scaled, sum_of, value_by_hand, wrong_rows)
from tests.test_names import CLASSES, NAMES, met_by_hand
from tests.test_space import other_rows, wrong_lines
from tests.test_surface import cross, drawn_line, slopes, spots_of, values


def spots_along(surface, name):
    """Spots at which a form made for a name j or c is 0: more than enough to tell it."""
    pins = [spot for spot, number in zip(surface.pins.spots, CLASSES[name][1:]) if number]
    if name[0] == "j":
        return [sum_of(scales, pins) for scales in ((1, 1), (1, -1), (1, 2), (2, 1), (1, -3))]
    curve, told = seconds(pins)[0], []
    for other in ((1, 0, 0), (0, 1, 0), (0, 0, 1), (1, 2, -1), (1, 1, 1), (2, -1, 3), (1, 3, 5), (4, 1, -2), (3, -5, 1)):
        # The second spot of the curve in a line with the first pin and another spot.
        both = value_by_hand(curve, 3, 2, sum_of((1, 1), (pins[0], other)))
        alone = value_by_hand(curve, 3, 2, other)
        told.append(sum_of((alone, alone - both), (pins[0], other)))
    return told


def line_by_hand(surface, name):
    """The line of a standing name: its places are orthogonal to all rows that make a form as is told."""
    if name[0] == "p":
        gradients = [slopes(curve, 3, surface.pins.spots[int(name[1])]) for curve in surface.curves]
        return reduced_by_hand(zip(*gradients), 4)
    return reduced_by_hand([values(surface, spot) for spot in spots_along(surface, name)], 4)


def has(line, place):
    """Whether a line has a place: all determinants of three letters are 0."""
    rows = [*line, place]
    return all(determinant_by_hand([[row[at] for at in letters] for row in rows]) == 0
               for letters in combinations(range(4), 3))


class LinesTest(Case):

    def check(self, surface):
        """All that is told of the lines of a surface."""
        pins = surface.pins
        lines = {name: line_by_hand(surface, name) for name in standing_names(pins)}
        self.assertEqual(len(set(lines.values())), len(lines))
        for name in NAMES:
            line = line_of(surface, name)
            self.same(line, lines[falls_on(pins, name)])
            self.assertTrue(is_line(line))
            self.assertTrue(lies(surface.form, line))
        weights = {name: len(fallen) for name, fallen in weights_of(pins)}
        self.same(told_lines(surface), tuple((name, lines[name], weights[name]) for name in lines))
        return lines

    def check_meetings(self, surface, lines):
        """Which lines meet, and where."""
        bars = surface.pins.bars
        for one, other in combinations(lines, 2):
            place = meeting_place(surface, one, other)
            self.same(place, meeting_place(surface, other, one))
            self.same(place, meet(lines[one], lines[other]))
            peaks = [(bar, its) for bar in bars for its in bars
                     if self.crossed(one, bar) == 1 and self.crossed(other, its) == 1
                     and (bar == its or self.times(bar, its) == 1)]
            ways = (met_by_hand(one, other) == 1) + bool(peaks)
            self.assertEqual(ways, int(place is not None))
            if place is not None:
                self.assertTrue(on_line(lines[one], place) and on_line(lines[other], place))

    def crossed(self, name, bar):
        return self.times(CLASSES[name], bar)

    def times(self, one, other):
        return one[0] * other[0] - dotted(one[1:], other[1:])

    def check_names(self, source, surface, lines):
        """The names of lines, and of places."""
        for name, line in lines.items():
            self.same(name_of_line(surface, other_rows(source, line)), name)
            self.same(name_of_line(surface, listed(line[::-1])), name)
            rows = [sum_of(source.nonzero(2, 4), line) for _ in range(2)]
            for place in [*rows, *line]:
                self.check_place(surface, lines, place)
            self.assertIsNone(name_of_line(surface, (line[0], sum_of((1, 1), (line[1], (1, 2, -5, 3))))))
        pins = surface.pins
        for spot in spots_of(source, pins):
            self.check_place(surface, lines, surface.place_of(spot))
        for pin, spot in enumerate(pins.spots):
            told = self.check_place(surface, lines, surface.place_at(pin, drawn_line(source, spot)))
            self.assertIn(f"p{pin}", told)
            for other in pins.spots:
                if other != spot:
                    self.check_place(surface, lines, surface.place_at(pin, cross(spot, other)))
        self.same(names_on(surface, self.off(source, surface)), ())

    def off(self, source, surface):
        place = source.nonzero(4, 9)
        return self.off(source, surface) if place in surface else place

    def check_place(self, surface, lines, place):
        told = names_on(surface, place)
        self.same(told, tuple(name for name, line in lines.items() if has(line, place)))
        self.same(names_on(surface, scaled(place, -3)), told)
        return told

    def test_the_seven_cases(self):
        source = Source(161)
        for name, surface in SURFACES:
            with self.subTest(name):
                lines = self.check(surface)
                self.check_meetings(surface, lines)
                self.check_names(source, surface, lines)

    def test_other_orders_rows_and_changes(self):
        for name, spots in shuffled(162):
            with self.subTest(name):
                surface = Surface(Pins(spots))
                lines = self.check(surface)
                self.check_meetings(surface, lines)
                self.check_names(Source(163), surface, lines)

    def test_drawn_pins_with_six_digits(self):
        surface = Surface(drawn_pins(5))
        self.check_meetings(surface, self.check(surface))

    def test_names_of_the_places_of_spots(self):
        # On the line of a name j if the spot is in a line with its pins, on that of a name c if its form is 0 there.
        for name, surface in SURFACES[:4]:
            pins = surface.pins
            for spot in spots_of(Source(164), pins):
                if surface.back(surface.place_of(spot)).word == "spot":
                    told = [one for one in standing_names(pins) if self.is_through(pins, one, spot)]
                    self.same(names_on(surface, surface.place_of(spot)), tuple(told))

    def is_through(self, pins, name, spot):
        its = [one for one, number in zip(pins.spots, CLASSES[name][1:]) if number == 1]
        if name[0] == "j":
            return rank_by_hand([*its, spot], 3) == 2
        return name[0] == "c" and value_by_hand(seconds(its)[0], 3, 2, spot) == 0

    def test_names_at_peaks(self):
        self.same(names_on(CORNERS, (0, 0, 0, 1)), ("p1", "p2", "p3"))
        hill = SURFACES[2][1]
        self.same(names_on(hill, (1, 0, 0, 0)), ("p0", "p1", "p2", "p3", "p4", "p5"))
        parted = SURFACES[4][1]
        self.same(names_on(parted, (1, 0, 0, 0)), ("p0", "p1", "p2", "p3", "p4", "p5"))

    def test_known_lines(self):
        self.same(line_of(CORNERS, "c3"), ((1, 0, 0, 0), (0, 1, 0, 0)))
        self.same(line_of(CORNERS, "j03"), ((2, 0, -1, 0), (0, 2, -1, 0)))
        self.same(meeting_place(CORNERS, "p1", "p3"), (0, 0, 0, 1))
        self.assertIsNone(meeting_place(CORNERS, "p0", "p3"))
        self.assertEqual(len(told_lines(PLAINEST)), 27)


class ErrorsTest(Case):

    def test_surface_first(self):
        for value in NO_SURFACES:
            self.refused(BadSurface, "surface", told_lines, value)
            self.refused(BadSurface, "surface", line_of, value, "p0")
            self.refused(BadSurface, "surface", line_of, value, "p6")
            self.refused(BadSurface, "surface", name_of_line, value, None)
            self.refused(BadSurface, "surface", names_on, place=(0, 0, 0, 0), surface=value)
            self.refused(BadSurface, "surface", meeting_place, value, "p6", "p7")

    def test_names(self):
        for value in NO_NAMES:
            self.refused(BadName, "name", line_of, CORNERS, value)
            self.refused(BadName, "one", meeting_place, CORNERS, value, "p0")
            self.refused(BadName, "one", meeting_place, CORNERS, value, value)
            self.refused(BadName, "one", meeting_place, CORNERS, value, "c0")
            self.refused(BadName, "other", meeting_place, CORNERS, "p0", value)
            self.refused(BadName, "other", meeting_place, CORNERS, "c0", value)

    def test_rows(self):
        for value in wrong_lines():
            self.refused(BadRow, "line", name_of_line, CORNERS, value)
        for value in wrong_rows(4):
            self.refused(BadRow, "place", names_on, CORNERS, value)

    def test_misfits(self):
        self.refused(Misfit, "one", meeting_place, CORNERS, "c0", "p0")
        self.refused(Misfit, "one", meeting_place, CORNERS, "c0", "c0")
        self.refused(Misfit, "one", meeting_place, CORNERS, "c0", "c1")
        self.refused(Misfit, "other", meeting_place, CORNERS, "p0", "c0")
        self.refused(Misfit, "other", meeting_place, CORNERS, "p0", "p0")
        for name in NAMES:
            self.refused(Misfit, "other", meeting_place, PLAINEST, name, name)

    def test_by_name(self):
        self.same(line_of(name="p0", surface=CORNERS), ((1, 0, 0, 0), (0, 1, 0, 0)))
        self.same(told_lines(surface=CORNERS), told_lines(CORNERS))
        self.same(name_of_line(line=[(0, 1, 0, 7), (0, 3, 0, 0)], surface=CORNERS), "p2")
        self.same(names_on(place=[0, 0, 0, -2], surface=CORNERS), ("p1", "p2", "p3"))
        self.same(meeting_place(other="p3", one="p1", surface=CORNERS), (0, 0, 0, 1))

    def test_lines_are_plain(self):
        for name, surface in SURFACES:
            for _, line, _ in told_lines(surface):
                for row in line:
                    self.same(row, plain_by_hand(row))


if __name__ == "__main__":
    unittest.main()

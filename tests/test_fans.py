"""Fifth forms and fans."""

import unittest

from sixpins.errors import BadForm, BadName, BadRow, BadSurface, Misfit
from sixpins.falls import standing_names
from sixpins.fans import Fan, fan_of, fifth_form
from sixpins.forms import form_product, pulled_form
from sixpins.lines import line_of
from sixpins.names import pairs_of
from sixpins.papers import Denial, Paper
from sixpins.pins import Pins
from sixpins.space import line_through
from sixpins.surface import Surface
from tests.samples import CORNERS, NO_NAMES, NO_SURFACES, PLAINEST, SURFACES, check_cut, drawn_pins, shuffled
from tests.support import Case, ODD, Source, determinant_by_hand, dotted, plain_by_hand, scaled
from tests.test_names import NAMES
from tests.test_space import other_rows, wrong_lines

TENT = (0, 0, 0, 0, 0, 1) + (0,) * 13 + (1,)
EDGES = (((0, 1, 0, 0), (0, 0, 1, 0)), ((1, 0, 0, 0), (0, 0, 1, 0)), ((1, 0, 0, 0), (0, 1, 0, 0)))
# Forms with endlessly many lines: three planes, a plane three times, a cone, and one with a line of peaks.
PLANES = (0, 0, 0, 0, 0, 1) + (0,) * 14
CUBE = (1,) + (0,) * 19
CONE = (1, 0, 0, 0, 0, 0, 0, 0, 0, 0, 1, 0, 0, 0, 0, 0, -2, 0, 0, 0)
RULED = (0, 0, 1, 0, 0, 0, 0, 0, 0, 0, 0, 0, 1, 0, 0, 0, 0, 0, 0, 0)


def wrong_forms(zeros=True):
    """Values of all kinds that are no form of third degree in space; with zeros, also the one that is all 0."""
    told = [*ODD, 0, 7, [], (), CORNERS.form[1:], (*CORNERS.form, 0), [CORNERS.form], "0" * 20, [[1] * 4] * 5]
    told += [CORNERS.form[:19] + (value,) for value in ODD + ([], (1,), (1, 1))]
    return told + [[0] * 20, (0,) * 20] if zeros else told


def free_places(line):
    """The two places that are leading places of neither row."""
    leads = [[at for at, number in enumerate(row) if number][0] for row in line]
    return [at for at in range(4) if at not in leads]


def fifth_at(form, line, u, v):
    """The value of the fifth form, worked out by the plane of the line and one further place."""
    k, m = free_places(line)
    further = [0, 0, 0, 0]
    further[k], further[m] = u, v
    told = pulled_form(form, 4, 3, (*line, further))
    # Letters s, t, w: what is w times A ss + B st + C tt + D s w + E t w + G w w.
    a, b, c, d, e, g = told[2], told[4], told[7], told[5], told[8], told[9]
    assert (told[0], told[1], told[3], told[6]) == (0, 0, 0, 0)
    doubled = determinant_by_hand(((2 * a, b, d), (b, 2 * c, e), (d, e, 2 * g)))
    assert doubled % 2 == 0
    return doubled // 2


def value_in_two(form, u, v):
    """The value of a form in two letters."""
    return sum(number * u ** (len(form) - 1 - at) * v ** at for at, number in enumerate(form))


class FifthTest(Case):

    def check(self, form, line):
        told = fifth_form(form, line)
        self.assertIs(type(told), tuple)
        self.assertEqual(len(told), 6)
        for u, v in ((1, 0), (0, 1), (1, 1), (1, -1), (1, 2), (2, 1), (3, -2)):
            self.assertEqual(value_in_two(told, u, v), fifth_at(form, line, u, v))
        return told

    def test_lines_of_surfaces(self):
        source = Source(171)
        for name, surface in SURFACES:
            for one in NAMES:
                line = line_of(surface, one)
                told = self.check(surface.form, line)
                self.assertTrue(any(told))
                self.same(fifth_form(list(surface.form), other_rows(source, line)), told)
                self.same(fifth_form(scaled(surface.form, -2), line), tuple(scaled(told, -8)))

    def test_any_forms_with_any_lines(self):
        source = Source(172)
        for _ in range(40):
            one, other = source.nonzero(4, 4), source.nonzero(4, 4)
            if plain_by_hand(one) != plain_by_hand(other):
                line = line_through(one, other)
                self.check(self.form_on(source, line), line)

    def form_on(self, source, line):
        """A form that lies on the line: a sum of two planes through it, each times a drawn form."""
        k, m = free_places(line)
        planes = [self.plane_with(line, at) for at in (k, m)]
        told = self.summed(source, planes)
        return told if any(told) else self.form_on(source, line)

    def plane_with(self, line, at):
        """The plane through the line whose integer at the other free place is 0."""
        leads = [[place for place, number in enumerate(row) if number][0] for row in line]
        scale = line[0][leads[0]] * line[1][leads[1]]
        plane = [0, 0, 0, 0]
        plane[at] = scale
        for row, lead in zip(line, leads):
            plane[lead] = -row[at] * scale // row[lead]
        assert all(dotted(plane, row) == 0 for row in line)
        return plane

    def summed(self, source, planes):
        parts = [form_product(plane, source.row(10, 3), 4, 1, 2) for plane in planes]
        return tuple(map(sum, zip(*parts)))

    def test_known_ones(self):
        self.same(fifth_form(CORNERS.form, line_of(CORNERS, "p0")), (0, 1, 2, 1, 0, 0))
        self.same(fifth_form(CORNERS.form, line_of(CORNERS, "j03")), (0, 0, 32, 16, 0, 0))
        self.same(fifth_form(TENT, EDGES[0]), (0, 0, 0, -1, 0, 0))
        self.same(fifth_form(line=EDGES[0], form=TENT), (0, 0, 0, -1, 0, 0))

    def test_planes_on_the_form(self):
        for form in (PLANES, CUBE):
            self.same(self.check(form, ((0, 1, 0, 0), (0, 0, 0, 1))), (0,) * 6)
        for line in (((1, -1, 0, 0), (0, 0, 0, 1)), ((1, 1, 1, 0), (0, 0, 0, 1))):
            self.same(self.check(CONE, line), (0,) * 6)

    def test_errors(self):
        line = line_of(CORNERS, "p0")
        for value in wrong_forms():
            self.refused(BadForm, "form", fifth_form, value, line)
            self.refused(BadForm, "form", fifth_form, value, None)
        for value in wrong_lines():
            self.refused(BadRow, "line", fifth_form, CORNERS.form, value)
        for other in (((1, 0, 0, 0), (0, 0, 1, 0)), ((0, 1, 0, 0), (0, 0, 1, 0)), [(1, 1, 1, 1), (2, 0, 0, 5)]):
            self.refused(Misfit, "line", fifth_form, CORNERS.form, other)
        # Each one of aaa, aab, abb and bbb keeps a form off the line c = d = 0.
        for at in (0, 1, 4, 10):
            form = (0,) * at + (1,) + (0,) * (19 - at)
            self.refused(Misfit, "line", fifth_form, form, ((1, 0, 0, 0), (0, 1, 0, 0)))


class FanTest(Case):

    def check(self, surface, name):
        """All that is told of the fan of a standing name."""
        fan = fan_of(surface, name)
        self.assertIs(type(fan), Fan)
        line = line_of(surface, name)
        self.same(fan.line, line)
        self.same([five[1:] for five in fan.fives],
                  [tuple(line_of(surface, one) for one in pair) for pair in pairs_of(name)])
        fifth = fifth_form(surface.form, line)
        self.assertTrue(type(fan.scale) is int and fan.scale != 0)
        k, m = free_places(line)
        for u, v in ((1, 0), (0, 1), (1, 1), (1, -1), (1, 2), (2, 1), (3, -2)):
            product = fan.scale
            for plane, _, _ in fan.fives:
                p, q = plain_by_hand((plane[k], plane[m]))
                product *= p * u + q * v
            self.assertEqual(product, value_in_two(fifth, u, v))
        for plane, one, other in fan.fives:
            self.same(plane, plain_by_hand(plane))
            check_cut(self, surface.form, plane, (line, one, other))

    def test_the_seven_cases(self):
        for name, surface in SURFACES:
            for one in standing_names(surface.pins):
                with self.subTest(name, one=one):
                    self.check(surface, one)

    def test_other_orders_rows_and_changes(self):
        for name, spots in shuffled(182):
            surface = Surface(Pins(spots))
            for one in standing_names(surface.pins)[::3]:
                with self.subTest(name, one=one):
                    self.check(surface, one)

    def test_drawn_pins_with_six_digits(self):
        surface = Surface(drawn_pins(6))
        for name in ("p3", "j25", "c4"):
            self.check(surface, name)

    def test_unlike_planes_without_bars(self):
        for name in NAMES:
            self.assertEqual(len({five[0] for five in fan_of(PLAINEST, name).fives}), 5)

    def test_known_fan(self):
        fan = fan_of(CORNERS, "p0")
        self.same(fan.scale, 1)
        self.same([five[0] for five in fan.fives],
                  [(0, 0, 1, 1), (0, 0, 1, 1), (0, 0, 0, 1), (0, 0, 1, 0), (0, 0, 1, 0)])
        self.same(fan_of(CORNERS, "j03").scale, 16)
        self.assertEqual(fan_of(name="p0", surface=CORNERS), fan)

    def test_paper(self):
        fan = Fan([(1, 0, 0, 0), [0, 1, 0, 0]], [[1, 2], 3], 4)
        self.assertEqual((fan.word, bool(fan)), ("fan", True))
        self.same((fan.line, fan.fives, fan.scale), (((1, 0, 0, 0), (0, 1, 0, 0)), ((1, 2), 3), 4))
        self.same(fan.parts, (fan.line, fan.fives, fan.scale))
        self.assertEqual(Fan(scale=4, fives=((1, 2), 3), line=fan.line), fan)
        self.assertIsInstance(fan, Paper)
        self.assertNotIsInstance(fan, Denial)

    def test_errors(self):
        for value in NO_SURFACES:
            self.refused(BadSurface, "surface", fan_of, value, "p0")
            self.refused(BadSurface, "surface", fan_of, value, "p6")
        for value in NO_NAMES:
            self.refused(BadName, "name", fan_of, CORNERS, value)
        for name in NAMES:
            if name not in standing_names(CORNERS.pins):
                self.refused(Misfit, "name", fan_of, CORNERS, name)


if __name__ == "__main__":
    unittest.main()

"""Forms: monomials, values, products, slopes, forms on rows."""

import unittest
from math import comb

from sixpins.errors import BadForm, BadNumber, BadRow
from sixpins.forms import (form_product, lies, monomials, on_line_of, on_plane_of, pulled_form, slope_of, value_of)
from sixpins.space import line_through, plane_basis
from tests.support import (Case, ODD, ODD_INTEGERS, Source, listed, monomials_by_hand, scaled, sum_of, value_by_hand,
                           wrong_rows)

CUBIC = (0, 0, 0, 0, 0, 0, 1, -1, 0, 0, 0, 0, 0, -1, 0, 0, -2, -1, 0, 0)
LINE = ((1, 0, 0, 0), (0, 1, 0, 0))
WRONG_LETTERS = ODD_INTEGERS + (0, 1, 5, -2, 6)
PLACE = (1, 2, 3, 4)


def many_of(letters, degree):
    """How many monomials there are."""
    return comb(letters + degree - 1, degree)


def wrong_degrees(least, most):
    """Values of all kinds that are no degree from least to most."""
    return ODD_INTEGERS + (least - 1, most + 1, -5, 50)


def wrong_forms(many):
    """Values of all kinds that are no form of so many integers."""
    right = [1] * many
    told = [*ODD, 0, 7, [], right + [1], right[1:], [right], [right] * many, [0] * (many + 1), "1" * many]
    return told + [right[1:] + [value] for value in ODD + ([], (1,))]


def letter_form(letters, letter):
    """The form of first degree that is one letter."""
    return tuple(int(place == letter) for place in range(letters))


class MonomialsTest(Case):

    def test_all(self):
        for letters in (2, 3, 4):
            for degree in range(13):
                told = monomials(letters, degree)
                self.assertEqual(len(told), many_of(letters, degree))
                if degree <= 8:
                    self.same(told, tuple(monomials_by_hand(letters, degree)))
                else:
                    self.assertEqual(list(told), sorted(set(told), reverse=True))
                    self.assertEqual({(len(row), sum(row), min(row) >= 0) for row in told}, {(letters, degree, True)})

    def test_errors(self):
        for value in WRONG_LETTERS:
            self.refused(BadNumber, "letters", monomials, value, 2)
            self.refused(BadNumber, "letters", monomials, value, -1)
            self.refused(BadNumber, "letters", monomials, degree=None, letters=value)
        for value in wrong_degrees(0, 12):
            self.refused(BadNumber, "degree", monomials, 3, value)
        self.same(monomials(degree=1, letters=2), ((1, 0), (0, 1)))


class ValueTest(Case):

    def test_values(self):
        source = Source(61)
        for letters in (2, 3, 4):
            for degree in range(7):
                form = source.row(many_of(letters, degree), 9)
                row = source.row(letters, 6)
                told = value_by_hand(form, letters, degree, row)
                self.same(value_of(form, letters, degree, row), told)
                self.same(value_of(listed(form), letters, degree, listed(row)), told)
                self.same(value_of(form, letters, degree, scaled(row, -2)), told * (-2) ** degree)

    def test_single_monomials(self):
        for letters in (2, 3, 4):
            row = (2, 3, 5, 7)[:letters]
            for degree in (1, 2, 3, 12):
                told = monomials(letters, degree)
                for at, powers in enumerate(told):
                    form = [0] * len(told)
                    form[at] = 1
                    value = 1
                    for letter, power in zip(row, powers):
                        value *= letter ** power
                    self.same(value_of(form, letters, degree, row), value)

    def test_zeros(self):
        for letters in (2, 3, 4):
            self.same(value_of([7], letters, 0, [0] * letters), 7)
            self.same(value_of([-7], letters, 0, PLACE[:letters]), -7)
            for degree in (1, 2, 12):
                many = many_of(letters, degree)
                self.same(value_of([5] * many, letters, degree, [0] * letters), 0)
                self.same(value_of([0] * many, letters, degree, PLACE[:letters]), 0)

    def test_long_integers(self):
        source = Source(62)
        form, row = source.row(20, 10 ** 30), source.row(4, 10 ** 30)
        self.same(value_of(form, 4, 3, row), value_by_hand(form, 4, 3, row))

    def test_errors(self):
        for value in WRONG_LETTERS:
            self.refused(BadNumber, "letters", value_of, (1, 2), value, -1, (1, 2, 3))
            self.refused(BadNumber, "letters", value_of, None, value, 2, None)
        for value in wrong_degrees(0, 12):
            self.refused(BadNumber, "degree", value_of, (1, 2), 2, value, (1, 2))
            self.refused(BadNumber, "degree", value_of, row=None, form=None, letters=2, degree=value)
        for letters, degree in ((2, 0), (2, 1), (3, 2), (4, 3), (2, 12)):
            row = PLACE[:letters]
            for value in wrong_forms(many_of(letters, degree)):
                self.refused(BadForm, "form", value_of, value, letters, degree, row)
                self.refused(BadForm, "form", value_of, value, letters, degree, None)
            form = [1] * many_of(letters, degree)
            for value in wrong_rows(letters, zeros=False):
                self.refused(BadRow, "row", value_of, form, letters, degree, value)

    def test_by_name(self):
        self.same(value_of(row=(2, 3), degree=1, letters=2, form=(5, 7)), 31)


class ProductTest(Case):

    def test_products(self):
        source = Source(63)
        for letters in (2, 3, 4):
            for degree in range(7):
                for further in range(7 if letters < 4 else 4):
                    one = source.row(many_of(letters, degree), 5)
                    other = source.row(many_of(letters, further), 5)
                    told = form_product(one, other, letters, degree, further)
                    self.assertEqual(len(told), many_of(letters, degree + further))
                    self.assertIs(type(told), tuple)
                    for _ in range(2):
                        row = source.row(letters, 9)
                        self.assertEqual(value_of(told, letters, degree + further, row),
                                         value_of(one, letters, degree, row) * value_of(other, letters, further, row))
                    self.same(form_product(listed(other), listed(one), letters, further, degree), told)

    def test_known_ones(self):
        self.same(form_product((1, 1), (1, -1), 2, 1, 1), (1, 0, -1))
        self.same(form_product((1, 2, 3), (4, 5, 6), 3, 1, 1), (4, 13, 18, 10, 27, 18))
        self.same(form_product([3], [-5], 4, 0, 0), (-15,))
        self.same(form_product([0, 0], [1, 2, 3], 2, 1, 2), (0, 0, 0, 0))
        self.same(form_product([1] * 84, [0] * 84, 4, 6, 6), (0,) * 455)
        self.same(form_product([1] + [0] * 83, [0] * 83 + [1], 4, 6, 6)[monomials(4, 12).index((6, 0, 0, 6))], 1)

    def test_order_of_errors(self):
        for value in WRONG_LETTERS:
            self.refused(BadNumber, "letters", form_product, None, None, value, None, None)
        for value in wrong_degrees(0, 6):
            self.refused(BadNumber, "degree", form_product, None, None, 2, value, None)
            self.refused(BadNumber, "further", form_product, None, None, 2, 1, value)
            self.refused(BadNumber, "further", form_product, further=value, degree=1, letters=2, one=0, other=0)
        for value in wrong_forms(3):
            self.refused(BadForm, "one", form_product, value, (1, 1), 2, 2, 1)
            self.refused(BadForm, "one", form_product, value, None, 3, 1, 6)
            self.refused(BadForm, "other", form_product, (1, 1), value, 2, 1, 2)

    def test_by_name(self):
        self.same(form_product(further=2, degree=0, letters=2, other=(1, 0, 3), one=[2]), (2, 0, 6))


class SlopeTest(Case):

    def test_slopes(self):
        source = Source(64)
        for letters in (2, 3, 4):
            for degree in range(1, 8):
                form = source.row(many_of(letters, degree), 9)
                powers = monomials_by_hand(letters, degree)
                lower = monomials_by_hand(letters, degree - 1)
                for letter in range(letters):
                    expected = [0] * len(lower)
                    for number, row in zip(form, powers):
                        if row[letter]:
                            less = tuple(power - (at == letter) for at, power in enumerate(row))
                            expected[lower.index(less)] += number * row[letter]
                    self.same(slope_of(form, letters, degree, letter), tuple(expected))
                    self.same(slope_of(listed(form), letters, degree, letter), tuple(expected))

    def test_letters_times_slopes(self):
        source = Source(65)
        for letters in (2, 3, 4):
            for degree in range(1, 7):
                form = source.row(many_of(letters, degree), 9)
                total = [0] * len(form)
                for letter in range(letters):
                    slope = slope_of(form, letters, degree, letter)
                    part = form_product(letter_form(letters, letter), slope, letters, 1, degree - 1)
                    total = [a + b for a, b in zip(total, part)]
                self.assertEqual(total, scaled(form, degree))

    def test_ends_of_degrees(self):
        self.same(slope_of((5, 7, 11), 3, 1, 2), (11,))
        self.same(slope_of([1] + [0] * 454, 4, 12, 0), (12,) + (0,) * 363)
        self.same(slope_of([0] * 455, 4, 12, 3), (0,) * 364)
        self.same(slope_of((0, 1), 2, 1, 0), (0,))

    def test_order_of_errors(self):
        for value in WRONG_LETTERS:
            self.refused(BadNumber, "letters", slope_of, None, value, None, None)
        for value in wrong_degrees(1, 12):
            self.refused(BadNumber, "degree", slope_of, None, 2, value, None)
        for letters in (2, 3, 4):
            for value in ODD_INTEGERS + (-1, letters, letters + 1):
                self.refused(BadNumber, "letter", slope_of, None, letters, 1, value)
                self.refused(BadNumber, "letter", slope_of, letter=value, letters=letters, form=(1,) * letters, degree=1)
        for value in wrong_forms(6):
            self.refused(BadForm, "form", slope_of, value, 3, 2, 2)

    def test_by_name(self):
        self.same(slope_of(letter=1, degree=2, letters=3, form=(0, 0, 1, -1, 0, 0)), (0, -2, 0))


class PulledTest(Case):

    def test_own_values(self):
        source = Source(66)
        for letters in (2, 3, 4):
            for degree in range(7):
                for many in (2, 3, 4):
                    form = source.row(many_of(letters, degree), 5)
                    rows = [source.row(letters, 4) for _ in range(many)]
                    told = pulled_form(form, letters, degree, rows)
                    self.assertEqual(len(told), many_of(many, degree))
                    self.assertIs(type(told), tuple)
                    for _ in range(2):
                        scales = source.row(many, 5)
                        self.assertEqual(value_of(told, many, degree, scales),
                                         value_of(form, letters, degree, sum_of(scales, rows)))
                    self.same(pulled_form(listed(form), letters, degree, listed(tuple(rows))), told)

    def test_on_the_letters(self):
        source = Source(67)
        for letters in (2, 3, 4):
            for degree in range(7):
                form = source.row(many_of(letters, degree), 5)
                units = [letter_form(letters, letter) for letter in range(letters)]
                self.same(pulled_form(form, letters, degree, units), form)

    def test_zeros(self):
        for letters in (2, 3, 4):
            self.same(pulled_form((1,) * many_of(letters, 3), letters, 3, [(0,) * letters] * 4), (0,) * 20)
            self.same(pulled_form((0,) * many_of(letters, 2), letters, 2, [PLACE[:letters]] * 2), (0, 0, 0))
            self.same(pulled_form((9,), letters, 0, [(0,) * letters] * 3), (9,))

    def test_long_integers(self):
        source = Source(68)
        form, rows = source.row(84, 10 ** 30), [source.row(4, 10 ** 30) for _ in range(4)]
        told = pulled_form(form, 4, 6, rows)
        scales = source.row(4, 3)
        self.assertEqual(value_of(told, 4, 6, scales), value_by_hand(form, 4, 6, sum_of(scales, rows)))

    def test_order_of_errors(self):
        for value in WRONG_LETTERS:
            self.refused(BadNumber, "letters", pulled_form, None, value, None, None)
        for value in wrong_degrees(0, 6):
            self.refused(BadNumber, "degree", pulled_form, None, 2, value, None)
            self.refused(BadNumber, "degree", pulled_form, rows=None, form=None, letters=4, degree=value)
        for value in wrong_forms(3):
            self.refused(BadForm, "form", pulled_form, value, 3, 1, None)
            self.refused(BadForm, "form", pulled_form, value, 2, 2, [(1, 0), (0, 1)])
        for value in ODD + (5, [], [(1, 0)], [(1, 0)] * 5, (1, 0), [1, 0]):
            self.refused(BadRow, "rows", pulled_form, (1, 2), 2, 1, value)
        for value in wrong_rows(2, zeros=False):
            self.refused(BadRow, "rows", pulled_form, (1, 2), 2, 1, [(1, 0), value])
            self.refused(BadRow, "rows", pulled_form, (1, 2), 2, 1, [value, (1, 0), (1, 1)])

    def test_by_name(self):
        self.same(pulled_form(rows=[(1, 1), (0, 1)], degree=1, letters=2, form=(5, 7)), (12, 7))


class CubicTest(Case):

    def test_on_lines(self):
        source = Source(69)
        for at in range(40):
            form = source.row(20, 9 if at % 4 else 10 ** 30)
            one, other = source.nonzero(4, 5), source.nonzero(4, 5)
            if any(a * other[0] != b * one[0] for a, b in zip(one, other)):
                line = line_through(one, other)
                told = on_line_of(form, line)
                self.same(told, pulled_form(form, 4, 3, line))
                self.same(on_line_of(listed(form), [scaled(one, 3), sum_of((1, 2), (one, other))]), told)
                self.assertIs(lies(form, (one, other)), told == (0, 0, 0, 0))

    def test_on_planes(self):
        source = Source(70)
        for at in range(40):
            form, plane = source.row(20, 9 if at % 4 else 10 ** 30), source.nonzero(4, 5)
            told = pulled_form(form, 4, 3, plane_basis(plane))
            self.same(on_plane_of(form, plane), told)
            self.same(on_plane_of(listed(form), scaled(plane, -2)), told)

    def test_lies(self):
        for line, told in ((((1, 0, 0, 0), (0, 1, 0, 0)), True), (((1, 0, 0, 0), (0, 0, 0, 1)), True),
                           (((1, 0, 0, 0), (0, 0, 1, 0)), False), (((1, 1, -1, 0), (0, 0, 0, 1)), True),
                           (((2, 0, -1, 0), (0, 2, -1, 0)), True), (((2, 0, -1, 1), (0, 2, -1, 0)), False)):
            self.assertIs(lies(CUBIC, line), told)
            self.assertIs(lies(CUBIC, [sum_of((1, 1), line), sum_of((3, -2), line)]), told)
            self.assertIs(lies((0,) * 20, line), True)
            self.same(on_line_of([0] * 20, line), (0, 0, 0, 0))
        for at in range(4):
            # Forms that are 0 on the line but for one of the four integers.
            form = [0] * 20
            form[monomials(4, 3).index((3 - at, at, 0, 0))] = 1
            self.assertIs(lies(form, LINE), False)

    def test_on_plane_of_zeros(self):
        self.same(on_plane_of([0] * 20, (1, 2, 3, 4)), (0,) * 10)
        self.same(on_plane_of((1,) + (0,) * 19, (1, 0, 0, 0)), (0,) * 10)

    def test_errors(self):
        for value in wrong_forms(20):
            for call in (on_line_of, lies):
                self.refused(BadForm, "form", call, value, LINE)
                self.refused(BadForm, "form", call, value, None)
            self.refused(BadForm, "form", on_plane_of, value, PLACE)
            self.refused(BadForm, "form", on_plane_of, plane=None, form=value)
        for value in wrong_rows(4):
            self.refused(BadRow, "plane", on_plane_of, CUBIC, value)
            for call in (on_line_of, lies):
                self.refused(BadRow, "line", call, CUBIC, value)
                self.refused(BadRow, "line", call, CUBIC, [PLACE, value])
                self.refused(BadRow, "line", call, line=(value, PLACE), form=CUBIC)
        for call in (on_line_of, lies):
            for value in ([PLACE], [PLACE] * 2, [PLACE, scaled(PLACE, -3)], [*LINE, PLACE], PLACE, []):
                self.refused(BadRow, "line", call, CUBIC, value)

    def test_by_name(self):
        self.same(on_line_of(line=[(1, 0, 0, 0), (0, 0, 1, 0)], form=CUBIC), (0, 0, -1, -2))
        self.assertIs(lies(line=LINE, form=CUBIC), True)
        self.same(on_plane_of(plane=(0, 0, 1, 0), form=CUBIC), (0, 0, 0, 0, 1, 0, 0, 0, 0, 0))


if __name__ == "__main__":
    unittest.main()

"""What is written out term by term is what goes for any number of letters and any degree."""

import unittest

from sixpins.cubics import POWERS, RAISED, TWO_LETTERS, is_multiple, on_plane_by
from sixpins.forms import form_product, monomials, slope_of, value_of
from sixpins.making import RAISED as PLANE_RAISED
from sixpins.plane import bracket, curve_through, seconds, spot_touching
from sixpins.roster import CLASS_NUMBERS, CLASSES, MEETS, NAMES, NUMBERS, PAIRS_BESIDE, TRIOS
from sixpins.written import (pair_product, plane_between, plane_cubes, plane_dot, plane_product, plane_second_product,
                             plane_slopes, plane_squares, space_between, space_crossing, space_dot, space_product,
                             space_second_product, space_slopes, space_squares, space_value, triple_product)
from tests.support import (Case, Source, determinant_by_hand, dotted, monomials_by_hand, rank_by_hand, sum_of,
                           value_by_hand)
from tests.test_names import met_by_hand


def values_by_hand(row, degree):
    """The values of all monomials at a row."""
    many = len(monomials_by_hand(len(row), degree))
    return [value_by_hand([int(place == at) for place in range(many)], len(row), degree, row) for at in range(many)]


class WrittenTest(Case):

    def rows(self, many):
        source = Source(461 + many)
        for most in (1, 9, 10 ** 20):
            for _ in range(6):
                yield source.row(many, most), source.row(many, most), source

    def test_dots_and_crossings(self):
        for one, other, source in self.rows(3):
            self.same(plane_dot(one, other), dotted(one, other))
            self.same(bracket(one, other, (1, 2, 3)), determinant_by_hand([one, other, (1, 2, 3)]))
        for one, other, source in self.rows(4):
            self.same(space_dot(one, other), dotted(one, other))
            third, last = source.row(4, 9), source.row(4, 9)
            self.same(space_dot(space_crossing(one, other, third), last), -determinant_by_hand([one, other, third, last]))

    def test_values(self):
        for one, other, source in self.rows(3):
            self.assertEqual(list(plane_squares(one)), values_by_hand(one, 2))
            self.assertEqual(list(plane_cubes(one)), values_by_hand(one, 3))
            both = values_by_hand(sum_of((1, 1), (one, other)), 2)
            told = sum_of((1, -1, -1), (both, values_by_hand(one, 2), values_by_hand(other, 2)))
            self.same(plane_between(one, other), told)
        for one, other, source in self.rows(4):
            self.assertEqual(list(space_squares(one)), values_by_hand(one, 2))
            both = values_by_hand(sum_of((1, 1), (one, other)), 2)
            told = sum_of((1, -1, -1), (both, values_by_hand(one, 2), values_by_hand(other, 2)))
            self.same(space_between(one, other), told)
            form = source.row(20, 9)
            self.same(space_value(form, one), value_by_hand(form, 4, 3, one))

    def test_products(self):
        for one, other, source in self.rows(3):
            self.same(plane_product(one, other), form_product(one, other, 3, 1, 1))
            second = source.row(6, 9)
            self.same(plane_second_product(one, second), form_product(one, second, 3, 1, 2))
        for one, other, source in self.rows(4):
            self.same(space_product(one, other), form_product(one, other, 4, 1, 1))
            second, third = source.row(10, 9), source.row(4, 9)
            self.same(space_second_product(one, second), form_product(one, second, 4, 1, 2))
            told = triple_product(one, other, third)
            for row in ((1, 2, 3, 4), (2, -1, 0, 5), (-3, 1, 1, 1)):
                self.assertEqual(value_by_hand(told, 4, 3, row), dotted(one, row) * dotted(other, row) * dotted(third, row))
        for degree in range(5):
            for further in range(5):
                source = Source(462)
                one, other = source.row(degree + 1, 9), source.row(further + 1, 9)
                told = pair_product(one, other)
                for s, t in ((1, 0), (0, 1), (2, 3), (-1, 5)):
                    value = value_by_hand(one, 2, degree, (s, t)) * value_by_hand(other, 2, further, (s, t))
                    self.assertEqual(value_by_hand(told, 2, degree + further, (s, t)), value)

    def test_slopes(self):
        source = Source(463)
        for _ in range(5):
            form, further = source.row(10, 9), source.row(20, 9)
            self.same(plane_slopes(form), tuple(slope_of(form, 3, 3, letter) for letter in range(3)))
            self.same(space_slopes(further), tuple(slope_of(further, 4, 3, letter) for letter in range(4)))

    def test_products_of_forms_by_their_values(self):
        source = Source(464)
        for letters in (2, 3, 4):
            for degree in range(4):
                for further in range(3):
                    one = source.row(len(monomials(letters, degree)), 5)
                    other = source.row(len(monomials(letters, further)), 5)
                    told = form_product(one, other, letters, degree, further)
                    for _ in range(4):
                        row = source.row(letters, 4)
                        self.assertEqual(value_of(told, letters, degree + further, row),
                                         value_of(one, letters, degree, row) * value_of(other, letters, further, row))


class PlacesTest(Case):

    def test_places_of_products(self):
        for letters, degree, table in ((4, 2, RAISED), (3, 3, PLANE_RAISED)):
            places = {monomial: place for place, monomial in enumerate(monomials_by_hand(letters, degree + 1))}
            told = []
            for monomial in monomials_by_hand(letters, degree):
                told.append(tuple(places[tuple(power + (at == letter) for at, power in enumerate(monomial))]
                                  for letter in range(letters)))
            self.same(table, tuple(told))

    def test_places_of_two_letters(self):
        squares = monomials_by_hand(4, 2)
        self.same(TWO_LETTERS, tuple(tuple(squares.index(tuple((at == one) + (at == other) for at in range(4)))
                                           for other in range(4)) for one in range(4)))

    def test_places_of_powers(self):
        cubes = monomials_by_hand(4, 3)
        self.same(POWERS, tuple(tuple(tuple(place for place, monomial in enumerate(cubes) if monomial[letter] == power)
                                      for power in range(4)) for letter in range(4)))

    def test_forms_on_planes(self):
        source = Source(465)
        for lead in range(4):
            for _ in range(4):
                form, rest = source.row(20, 9), source.row(3 - lead, 5)
                plane = (0,) * lead + (source.within(1, 5),) + rest
                told = on_plane_by(form, plane, lead)
                others = source.row(3, 5)
                ahead = [number * plane[lead] for number in others]
                place = ahead[:lead] + [-dotted(others, plane[:lead] + plane[lead + 1:])] + ahead[lead:]
                self.assertEqual(dotted(place, plane), 0)
                self.assertEqual(value_by_hand(told, 3, 3, others), value_by_hand(form, 4, 3, place))

    def test_multiples(self):
        for row, other, told in (((2, 4), (1, 2), True), ((-2, -4), (1, 2), True), ((0, 0), (1, 2), False),
                                 ((2, 5), (1, 2), False), ((0, 3), (0, 2), True), ((1, 3), (0, 2), False),
                                 ((3, 0), (0, 2), False)):
            self.assertIs(is_multiple(row, other), told)


class CurvesTest(Case):

    def five(self, source, most):
        """Five spots, unlike, no four of them in a line."""
        while True:
            spots = [source.nonzero(3, most) for _ in range(5)]
            fours = [spots[:at] + spots[at + 1:] for at in range(5)]
            pairs = [[one, other] for at, one in enumerate(spots) for other in spots[at + 1:]]
            if all(rank_by_hand(four, 3) == 3 for four in fours) and all(rank_by_hand(pair, 3) == 2 for pair in pairs):
                return spots

    def test_curves_through_five_spots(self):
        source = Source(466)
        for most in (1, 2, 9, 10 ** 6):
            for _ in range(12):
                spots = self.five(source, most)
                self.same((curve_through(spots),), seconds(spots))

    def test_spots_on_lines_that_touch(self):
        source = Source(467)
        for most in (2, 9, 10 ** 6):
            for _ in range(12):
                spots = self.five(source, most)
                threes = [[spots[at] for at in three] for three in ((0, 1, 2), (0, 1, 3), (0, 1, 4), (0, 2, 3), (0, 2, 4),
                                                                    (0, 3, 4), (1, 2, 3), (1, 2, 4), (1, 3, 4), (2, 3, 4))]
                if all(rank_by_hand(three, 3) == 3 for three in threes):
                    told, curve = spot_touching(spots), curve_through(spots)
                    self.assertEqual(rank_by_hand([spots[0], told], 3), 2)
                    # On the line of both the curve has the first spot twice.
                    self.assertEqual(dotted(curve, plane_between(spots[0], told)), 0)


class RosterTest(Case):

    def test_numbers_of_names(self):
        self.assertEqual(NUMBERS, {name: number for number, name in enumerate(NAMES)})
        self.assertEqual(CLASS_NUMBERS, {row: number for number, row in enumerate(CLASSES)})

    def test_who_meets_whom(self):
        self.same(MEETS, tuple(tuple(met_by_hand(one, other) for other in NAMES) for one in NAMES))

    def test_trios_and_pairs(self):
        trios = [(one, other, third) for one in range(27) for other in range(one + 1, 27) for third in range(other + 1, 27)
                 if MEETS[one][other] == MEETS[one][third] == MEETS[other][third] == 1]
        self.same(TRIOS, tuple(trios))
        self.same(PAIRS_BESIDE, tuple(tuple(sorted(tuple(one for one in trio if one != number) for trio in trios
                                                   if number in trio)) for number in range(27)))


if __name__ == "__main__":
    unittest.main()

"""Matrices, determinants, spots to the right and left, pins across, matrices carried along."""

import unittest

from sixpins.changes import changed_form, judged_flat, led_line
from sixpins.downs import Fallen, judged_down
from sixpins.errors import BadForm, BadRenaming, BadRow, BadSurface
from sixpins.falls import falls_on, is_standing
from sixpins.lines import line_of, names_on
from sixpins.matrices import (Across, Carried, Matrix, OnCurve, carried_matrix, determinant_form, judged_matrix, left_spot,
                              matrix_at, right_spot, told_across)
from sixpins.names import all_names, all_sixes
from sixpins.peaks import told_peaks
from sixpins.pins import Pins
from sixpins.renamings import Renaming
from sixpins.surface import Surface
from sixpins.tables import undone
from tests.samples import CORNERS, NO_SURFACES, PLAINEST, SURFACES, drawn_pins, shuffled
from tests.support import (Case, ODD, Source, determinant_by_hand, dotted, listed, plain_by_hand, rank_by_hand,
                           reduced_by_hand, scaled, sum_of, wrong_rows)
from tests.test_changes import plain_by_hand_table
from tests.test_downs import NO_RENAMINGS, PINS, TURN, WHOLE, in_drawn_order, standing_sixes
from tests.test_surface import cubic_at, drawn_line, source_of_spot, spots_of

HILL = SURFACES[2][1]
ZEROS = ((((0,) * 4,) * 3,) * 3)


def drawn_matrix(source, most=9):
    """A matrix with drawn integers."""
    return tuple(tuple(source.row(4, most) for _ in range(3)) for _ in range(3))


def no_matrices():
    """Values of all kinds that are no matrix."""
    right = [[[1, 2, 3, 4]] * 3] * 3
    told = [*ODD, 0, 5, [], (), CORNERS, CORNERS.form, CORNERS.matrix[0], right[:2], right + right[:1], [right], ZEROS[0],
            [[1, 2, 3]] * 3, [[[1, 2, 3]] * 3] * 3, [[[1, 2, 3, 4, 5]] * 3] * 3, [[[1, 2, 3, 4]] * 2] * 3,
            [[[1, 2, 3, 4]] * 4] * 3]
    for value in ODD + (7, [], [[1]]):
        told += [right[:2] + [value], [right[0], right[0][:2] + [value], right[0]]]
    return told + [[[[1, 2, 3, value]] + right[0][1:]] + right[1:] for value in ODD + ([], [1])]


def at_by_hand(matrix, row):
    """The table of a matrix at a row."""
    return tuple(tuple(dotted(form, row) for form in mine) for mine in matrix)


def only_by_hand(rows):
    """The only spot that is orthogonal to all rows; None if there is none, or more than one."""
    if rank_by_hand(rows, 3) != 2:
        return None
    one, other = reduced_by_hand(rows, 3)
    return plain_by_hand([one[1] * other[2] - one[2] * other[1], one[2] * other[0] - one[0] * other[2],
                          one[0] * other[1] - one[1] * other[0]])


class MatrixAtTest(Case):

    def test_at_places(self):
        source = Source(351)
        for _ in range(20):
            matrix, place = drawn_matrix(source), source.nonzero(4, 9)
            told = matrix_at(matrix, place)
            self.same(told, at_by_hand(matrix, plain_by_hand(place)))
            # The table is that of the plain row of the place.
            self.same(matrix_at(listed(matrix), scaled(place, -6)), told)
        self.same(matrix_at(place=(4, 4, 2, 4), matrix=CORNERS.matrix), ((-3, 0, 3), (-1, 2, -1), (-2, 1, 1)))
        self.same(matrix_at(ZEROS, (1, 2, 3, 4)), ((0, 0, 0),) * 3)

    def test_errors(self):
        for value in no_matrices():
            self.refused(BadForm, "matrix", matrix_at, value, (1, 0, 0, 0))
            self.refused(BadForm, "matrix", matrix_at, value, value)
            self.refused(BadForm, "matrix", determinant_form, value)
        for value in wrong_rows(4):
            self.refused(BadRow, "place", matrix_at, CORNERS.matrix, value)


class DeterminantTest(Case):

    def check(self, matrix):
        told = determinant_form(matrix)
        self.assertIs(type(told), tuple)
        self.assertEqual((len(told), {type(number) for number in told}), (20, {int}))
        source = Source(352)
        for _ in range(25):
            row = source.row(4, 5)
            self.assertEqual(cubic_at(told, row), determinant_by_hand(at_by_hand(matrix, row)))
        return told

    def test_drawn_matrices(self):
        source = Source(353)
        for most in (2, 9, 10 ** 20):
            matrix = drawn_matrix(source, most)
            told = self.check(matrix)
            self.same(determinant_form(listed(matrix)), told)
            # Rows and columns exchanged, and two rows exchanged.
            self.same(determinant_form(tuple(zip(*matrix))), told)
            self.same(determinant_form((matrix[1], matrix[0], matrix[2])), tuple(-number for number in told))

    def test_rows_or_columns_alike_and_zeros(self):
        source = Source(354)
        for _ in range(5):
            one, other, third = drawn_matrix(source)
            self.same(self.check((one, other, one)), (0,) * 20)
            self.same(self.check(tuple(zip(*(one, third, third)))), (0,) * 20)
            self.same(self.check((one, other, ZEROS[0])), (0,) * 20)
            both = tuple(sum_of((2, -3), pair) for pair in zip(one, other))
            self.same(self.check((one, other, both)), (0,) * 20)
        self.same(determinant_form(matrix=ZEROS), (0,) * 20)

    def test_known(self):
        self.same(determinant_form(CORNERS.matrix), CORNERS.form)
        self.same(determinant_form([[(1, 0, 0, 0), (0, 0, 0, 0), (0, 0, 0, 0)], [(0, 0, 0, 0), (0, 0, 0, 2), (0, 0, 0, 0)],
                                    [(5, 0, 0, 0), (0, 0, 0, 0), (0, 1, 0, 0)]]), (0,) * 6 + (2,) + (0,) * 13)


class JudgedMatrixTest(Case):

    def check(self, surface):
        told, whole = judged_matrix(surface), determinant_form(surface.matrix)
        if surface.pins.curve is None:
            self.assertIs(type(told), Matrix)
            self.assertIs(bool(told), True)
            self.assertIs(type(told.scale), int)
            self.assertNotEqual(told.scale, 0)
            self.same(whole, tuple(scaled(surface.form, told.scale)))
        else:
            self.assertEqual(told, OnCurve(surface.pins.curve))
            self.same(told.curve, surface.pins.curve)
            self.assertIs(bool(told), False)
            self.same(whole, (0,) * 20)
        return told

    def test_surfaces(self):
        words = [self.check(surface).word for _, surface in SURFACES]
        self.assertEqual(words, ["matrix", "matrix", "oncurve", "matrix", "oncurve", "matrix", "matrix"])
        for name, spots in shuffled(355):
            with self.subTest(name):
                self.check(Surface(Pins(spots)))
        self.check(Surface(drawn_pins(8)))

    def test_known(self):
        told = [judged_matrix(surface=surface) for _, surface in SURFACES]
        self.assertEqual([paper.parts for paper in told[:4]], [(-14161,), (5,), ((0, 0, 1, -1, 0, 0),), (9,)])
        self.assertEqual(told[6], Matrix(1))

    def test_errors(self):
        for value in NO_SURFACES:
            self.refused(BadSurface, "surface", judged_matrix, value)
            self.refused(BadSurface, "surface", told_across, value)


class SpotsTest(Case):

    def check(self, surface, place):
        """Both spots at a place; they are returned."""
        table = at_by_hand(surface.matrix, plain_by_hand(place))
        right, left = right_spot(surface, place), left_spot(surface, place)
        self.same(right, only_by_hand(table))
        self.same(left, only_by_hand(list(zip(*table))))
        self.assertEqual(right is None, left is None)
        self.same(right_spot(surface, scaled(place, -4)), right)
        self.same(left_spot(surface, scaled(place, -4)), left)
        return right, left

    def test_places_of_spots_and_pins(self):
        source = Source(356)
        for name, surface in SURFACES:
            pins = surface.pins
            for spot in spots_of(source, pins)[::2]:
                place = surface.place_of(spot)
                right = self.check(surface, place)[0]
                on_bar = source_of_spot(pins, spot).word != "spot"
                self.same(right, None if on_bar else plain_by_hand(spot))
            for pin, spot in enumerate(pins.spots):
                place = surface.place_at(pin, drawn_line(source, spot))
                if names_on(surface, place) == (PINS[pin],):
                    self.same(self.check(surface, place)[0], spot)

    def test_peaks(self):
        for name, surface in SURFACES:
            for peak in told_peaks(surface):
                self.assertEqual(self.check(surface, peak.place), (None, None))

    def test_off_the_surface(self):
        source = Source(357)
        for name, surface in SURFACES:
            for _ in range(10):
                place = source.nonzero(4, 9)
                if place not in surface:
                    both = self.check(surface, place)
                    self.assertEqual(both[0] is None, surface.pins.curve is None)

    def test_pins_on_a_curve_of_second_degree(self):
        # One change of the plane leads each right spot to the left one.
        source = Source(358)
        for name, surface in (SURFACES[2], SURFACES[4]):
            pairs = [self.check(surface, source.nonzero(4, 9)) for _ in range(8)]
            pairs = [pair for pair in pairs if pair[0] is not None]
            change = judged_flat(surface.pins, told_across(surface).pins).change
            for right, left in pairs:
                self.same(plain_by_hand([dotted(row, right) for row in change]), left)

    def test_known(self):
        self.assertEqual([right_spot(CORNERS, (2, 2, 1, 2)), left_spot(CORNERS, (2, 2, 1, 2))], [(1, 1, 1), (1, 1, -2)])
        self.assertIsNone(left_spot(CORNERS, (0, 0, 0, 1)))
        self.assertIsNone(right_spot(CORNERS, (1, 1, 1, 1)))
        self.same(right_spot(place=(7, 1, 2, 3), surface=HILL), (1, 2, 3))
        self.same(left_spot(place=(7, 1, 2, 3), surface=HILL), (3, -2, 1))
        self.assertIsNone(left_spot(HILL, (1, 0, 0, 0)))

    def test_errors(self):
        for call in (left_spot, right_spot):
            for value in NO_SURFACES:
                self.refused(BadSurface, "surface", call, value, (1, 0, 0, 0))
                self.refused(BadSurface, "surface", call, value, value)
            for value in wrong_rows(4):
                self.refused(BadRow, "place", call, CORNERS, value)


class AcrossTest(Case):

    def check(self, surface):
        """All that is told of the six across and its pins; it is returned."""
        told = told_across(surface)
        self.assertIs(type(told), Across)
        self.same(told.names, tuple(falls_on(surface.pins, f"c{pin}") for pin in range(6)))
        later = Surface(told.pins)
        for spot, name in zip(told.pins.spots, told.names):
            self.assertIs(is_standing(surface.pins, name), True)
            line = line_of(surface, name)
            for share in ((1, 0), (0, 1), (1, 1), (1, -1), (2, 3)):
                place = sum_of(share, line)
                self.assertIn(left_spot(surface, place), (spot, None))
                peaks = [peak.place for peak in told_peaks(surface)]
                self.assertEqual(left_spot(surface, place) is None, plain_by_hand(place) in peaks)
        self.same(told.change, plain_by_hand_table(told.change))
        self.same(changed_form(surface.form, told.change), later.form)
        for name, further in zip(told.names, PINS):
            self.same(led_line(told.change, line_of(surface, name)), line_of(later, further))
        down = judged_down(surface, Renaming(told.names))
        self.assertEqual(judged_flat(told.pins, down.pins).word, "flat")
        return told

    def check_exchanged(self, surface, told):
        """Rows and columns exchanged, behind the change back, have the relations of the surface across."""
        back = undone(told.change)
        turned = [[tuple(dotted(form, column) for column in zip(*back)) for form in row] for row in zip(*surface.matrix)]
        rows = [[row[letter][at] for at in range(4) for letter in range(3)] for row in turned]
        self.same(reduced_by_hand(rows, 12), Surface(told.pins).relations)

    def test_the_seven_cases(self):
        for name, surface in SURFACES:
            with self.subTest(name):
                told = self.check(surface)
                self.check_exchanged(surface, told)

    def test_across_from_there(self):
        for name, surface in SURFACES:
            told = self.check(surface)
            back = self.check(Surface(told.pins))
            # Across and across again the surface comes to pins as its own.
            self.assertEqual(judged_flat(back.pins, surface.pins).word, "flat")

    def test_other_orders_rows_and_changes(self):
        for name, spots in shuffled(359):
            with self.subTest(name):
                self.check(Surface(Pins(spots)))

    def test_known(self):
        over = told_across(surface=CORNERS)
        self.same(over.names, ("p3", "p4", "p5", "p0", "p1", "p2"))
        self.same(over.pins.spots, ((1, -1, -1), (1, 0, 0), (0, 1, 1), (0, 0, 1), (0, 1, 0), (1, 0, -1)))
        self.same(over.change, ((0, 0, 1, 0), (0, -1, 0, 0), (0, 0, -1, -1), (1, 0, 2, 1)))
        self.same(told_across(HILL).names, PINS)
        self.assertEqual(str(told_across(HILL).pins), "0,0,1 1,-1,1 4,-2,1 9,-3,1 16,-4,1 25,-5,1")
        self.same(told_across(SURFACES[1][1]).names, ("c0", "c1", "c2", "j45", "j35", "j34"))


class CarriedTest(Case):

    def check(self, surface, renaming):
        told, down = carried_matrix(surface, renaming), judged_down(surface, renaming)
        if not down:
            self.assertEqual(told, down)
            self.assertIs(type(told), Fallen)
            return told
        if down.pins.curve is not None:
            self.assertEqual(told, OnCurve(down.pins.curve))
            return told
        self.assertIs(type(told), Carried)
        self.assertIs(bool(told), True)
        later = Surface(down.pins)
        source = Source(360)
        for _ in range(3):
            row = source.row(4, 9)
            ahead = [dotted(mine, row) for mine in down.change]
            self.same(at_by_hand(told.matrix, row), at_by_hand(later.matrix, ahead))
        self.assertNotEqual(told.scale, 0)
        self.same(determinant_form(told.matrix), tuple(scaled(surface.form, told.scale)))
        return told

    def test_drawn_renamings(self):
        source, words = Source(361), []
        for name, surface in SURFACES:
            sixes = standing_sixes(surface)
            for at in range(6):
                six = sixes[source.below(len(sixes))] if at % 3 else all_sixes()[source.below(72)]
                words.append(self.check(surface, Renaming(in_drawn_order(source, six))).word)
            self.check(surface, Renaming.still())
        self.assertEqual(sorted(set(words)), ["carried", "fallen", "oncurve"])

    def test_bent_pins_come_down_to_others(self):
        words = [self.check(HILL, Renaming(six)).word for six in standing_sixes(HILL)]
        self.assertEqual((words.count("oncurve"), words.count("carried")), (1, 20))

    def test_six_digits(self):
        self.check(Surface(drawn_pins(9)), WHOLE)

    def test_known(self):
        told = carried_matrix(HILL, TURN)
        self.assertEqual(told.scale, -576)
        self.same(told.matrix[1], ((0, 72, -108, 36), (0, 0, 0, 0), (0, 0, 12, -12)))
        self.assertEqual(carried_matrix(HILL, WHOLE), Fallen("c0"))
        self.assertEqual(carried_matrix(HILL, Renaming.still()), OnCurve(judged_down(HILL, Renaming.still()).pins.curve))
        self.assertEqual(carried_matrix(renaming=Renaming.still(), surface=CORNERS).scale, 1)
        # The turn at the first three pins of the plainest surface.
        self.assertIs(type(self.check(PLAINEST, TURN)), Carried)

    def test_errors(self):
        for value in NO_SURFACES:
            self.refused(BadSurface, "surface", carried_matrix, value, TURN)
            self.refused(BadSurface, "surface", carried_matrix, value, value)
        for value in NO_RENAMINGS:
            self.refused(BadRenaming, "renaming", carried_matrix, CORNERS, value)


class FactsTest(Case):

    def test_six_across_without_bars(self):
        self.same(told_across(PLAINEST).names, all_names()[21:])


if __name__ == "__main__":
    unittest.main()

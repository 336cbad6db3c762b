"""Rests modulo a prime: rows, lines, places, and the lines on which a form is 0."""

import unittest
from itertools import product

from sixpins.errors import BadForm, BadNumber, BadRow, Misfit
from sixpins.forms import on_line_of
from sixpins.lines import told_lines
from sixpins.rests import count_places, lines_modulo, rest_line, rest_row
from sixpins.space import line_through
from tests.samples import CORNERS, SURFACES
from tests.support import Case, ODD, Source, listed, plain_by_hand, scaled, sum_of
from tests.test_fans import wrong_forms
from tests.test_space import two_places, wrong_lines
from tests.test_surface import cubic_at

PRIMES = (2, 3, 5, 7, 11, 13, 17, 19, 23, 29, 31)
NO_PRIMES = ODD + ([], (), (2,), [3], (3, 1), 0, 1, -2, -3, 4, 6, 9, 15, 21, 25, 27, 33, 35, 37, 41, 97, 10 ** 30, 2.0, 3.0)
CUBIC = CORNERS.form


def rest_by_hand(row, prime):
    """The rest row, sought among the multiples of the row."""
    for times in range(1, prime):
        told = [number * times % prime for number in row]
        if [number for number in told if number][:1] == [1]:
            return tuple(told)
    return None


def places_by_hand(prime, many=4):
    """All rest rows of so many integers."""
    return [row for row in product(range(prime), repeat=many) if [number for number in row if number][:1] == [1]]


def lines_by_hand(prime):
    """All lines modulo the prime, by two rows, ascending."""
    told = []
    for one in places_by_hand(prime):
        for other in places_by_hand(prime):
            first, second = one.index(1), other.index(1)
            if first < second and one[second] == 0:
                told.append((one, other))
    return sorted(told)


def wide_lines(source, prime):
    """Lines whose two rows have one rest row, or nearly."""
    for _ in range(6):
        shared, further = source.nonzero(4, 9), source.nonzero(4, 9)
        for power in (1, 2, 5):
            other = sum_of((1, prime ** power), (shared, further))
            if plain_by_hand(shared) != plain_by_hand(other):
                yield shared, other


class RestRowTest(Case):

    def test_rows(self):
        source = Source(411)
        for prime in PRIMES:
            for many in (1, 2, 3, 4, 7, 30):
                for most in (9, 10 ** 25):
                    row = source.nonzero(many, most)
                    expected = rest_by_hand(row, prime)
                    if expected is None:
                        self.refused(Misfit, "row", rest_row, row, prime)
                    else:
                        self.same(rest_row(row, prime), expected)
                        self.same(rest_row(list(row), prime), expected)
                        self.same(rest_row(scaled(row, -1 - prime), prime), expected)
                        self.same(rest_row(expected, prime), expected)

    def test_known(self):
        self.same(rest_row((4, 6, -2), 5), (1, 4, 2))
        self.same(rest_row(prime=2, row=[0, -1]), (0, 1))
        self.same(rest_row([7], 3), (1,))

    def test_errors(self):
        for value in ODD + (0, 7, [], (), [0], (0, 0, 0), [[1, 2]], [1] * 31, [1, None], [1, True], (1, 2.0), [1, [2]]):
            self.refused(BadRow, "row", rest_row, value, 5)
            self.refused(BadRow, "row", rest_row, value, 4)
        for value in NO_PRIMES:
            self.refused(BadNumber, "prime", rest_row, (1, 2), value)
            self.refused(BadNumber, "prime", rest_row, (4, 8), value)
        for prime in PRIMES:
            self.refused(Misfit, "row", rest_row, (prime, -2 * prime, 0), prime)


class RestLineTest(Case):

    def check(self, rows, prime):
        told = rest_line(rows, prime)
        self.assertEqual((type(told), [type(row) for row in told]), (tuple, [tuple, tuple]))
        one, other = told
        first, second = one.index(1), other.index(1)
        self.assertTrue(first < second and one[second] == 0 and not any(other[:second]) and not any(one[:first]))
        line = line_through(*rows)
        # The rest row of each place of the line is one of the sums of both rows.
        sums = {rest_by_hand(sum_of(share, told), prime) for share in product(range(prime), repeat=2) if any(share)}
        self.assertEqual(len(sums), prime + 1)
        for share in product(range(-2, 3), repeat=2):
            if any(share):
                self.assertIn(rest_by_hand(plain_by_hand(sum_of(share, line)), prime), sums)
        self.same(rest_line(listed(rows[::-1]), prime), told)
        return told

    def test_drawn_lines(self):
        source = Source(412)
        for prime in PRIMES:
            for most in (3, 30, 10 ** 20):
                self.check(two_places(source, most), prime)

    def test_rows_with_one_rest_row(self):
        source = Source(413)
        for prime in PRIMES:
            for rows in wide_lines(source, prime):
                self.check(rows, prime)
        self.same(rest_line([(5, 0, 1, 2), (0, 5, 1, 2)], 5), ((1, 4, 0, 0), (0, 0, 1, 2)))
        self.same(rest_line(prime=5, line=[(25, 0, 1, 2), (0, 25, 1, 2)]), ((1, 4, 0, 0), (0, 0, 1, 2)))
        self.check([(2 ** 60, 0, 1, 1), (0, 2 ** 60, 1, 1)], 2)
        self.check([(2 ** 60, 0, 1, 1), (0, 2 ** 60, 1, 3)], 2)
        self.check([(3 ** 40, 0, 1, 1), (0, 3 ** 40, 2, 5)], 3)

    def test_lines_of_surfaces(self):
        for name, surface in SURFACES:
            for _, line, _ in told_lines(surface):
                for prime in (2, 3, 5):
                    told = self.check(line, prime)
                    self.assertTrue(all(number % prime == 0 for number in on_line_of(surface.form, told)))

    def test_errors(self):
        for value in wrong_lines():
            self.refused(BadRow, "line", rest_line, value, 5)
            self.refused(BadRow, "line", rest_line, value, 4)
        for value in NO_PRIMES:
            self.refused(BadNumber, "prime", rest_line, [(1, 0, 0, 0), (0, 1, 0, 0)], value)


class CountTest(Case):

    def check(self, form, prime):
        many = sum(cubic_at(form, place) % prime == 0 for place in places_by_hand(prime))
        self.same(count_places(form, prime), many)

    def test_all_places(self):
        source = Source(414)
        for prime in (2, 3, 5, 7):
            for name, surface in SURFACES:
                self.check(surface.form, prime)
            for most in (2, 10 ** 15):
                self.check(source.row(20, most), prime)
        for prime in (11, 13):
            self.check(CUBIC, prime)
            self.check(source.row(20, 10 ** 9), prime)

    def test_forms_that_the_prime_divides(self):
        for prime in (2, 3, 5, 7, 11, 13):
            whole = prime ** 3 + prime ** 2 + prime + 1
            self.same(count_places([0] * 20, prime), whole)
            self.same(count_places([prime * number for number in CUBIC], prime), whole)
            self.same(count_places((0,) * 19 + (1,), prime), prime ** 2 + prime + 1)
            self.same(count_places((1,) + (0,) * 19, prime), prime ** 2 + prime + 1)

    def test_known(self):
        self.assertEqual([count_places(CUBIC, 2), count_places(form=list(CUBIC), prime=3)], [11, 19])

    def test_errors(self):
        for value in wrong_forms(zeros=False):
            self.refused(BadForm, "form", count_places, value, 5)
            self.refused(BadForm, "form", count_places, value, 17)
        for value in NO_PRIMES + (17, 19, 23, 29, 31):
            self.refused(BadNumber, "prime", count_places, CUBIC, value)


class LinesTest(Case):

    def check(self, form, prime):
        expected = tuple(line for line in ALL_LINES[prime]
                         if all(number % prime == 0 for number in on_line_of(form, line)))
        told = lines_modulo(form, prime)
        self.same(told, expected)
        self.same(lines_modulo([number + prime * 7 for number in form], prime), told)
        return told

    def test_all_lines(self):
        source = Source(415)
        for prime in (2, 3, 5):
            for name, surface in SURFACES:
                self.check(surface.form, prime)
            self.check(source.row(20, 10 ** 15), prime)
        self.check(SURFACES[5][1].form, 7)
        # A form that is 0 at all three places of a line modulo 2, but not with all four integers.
        form = [0] * 20
        form[1], form[4] = 1, 1
        self.assertNotIn(((1, 0, 0, 0), (0, 1, 0, 0)), self.check(form, 2))

    def test_forms_that_the_prime_divides(self):
        for prime in (2, 3, 5, 7):
            many = (prime ** 2 + 1) * (prime ** 2 + prime + 1)
            self.assertEqual(len(ALL_LINES[prime]), many)
            self.same(lines_modulo([0] * 20, prime), tuple(ALL_LINES[prime]))
            self.same(lines_modulo([prime] * 20, prime), tuple(ALL_LINES[prime]))

    def test_known(self):
        self.assertEqual(len(lines_modulo(CUBIC, 2)), 9)
        self.same(lines_modulo(prime=2, form=CUBIC)[0], ((0, 1, 0, 0), (0, 0, 0, 1)))

    def test_errors(self):
        for value in wrong_forms(zeros=False):
            self.refused(BadForm, "form", lines_modulo, value, 5)
            self.refused(BadForm, "form", lines_modulo, value, 11)
        for value in NO_PRIMES + (11, 13, 17, 31):
            self.refused(BadNumber, "prime", lines_modulo, CUBIC, value)


ALL_LINES = {prime: lines_by_hand(prime) for prime in (2, 3, 5, 7)}

if __name__ == "__main__":
    unittest.main()

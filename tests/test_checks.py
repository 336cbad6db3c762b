"""The checks of single values."""

import unittest

from sixpins.checks import is_integer, is_number, is_plain, is_row, is_within
from tests.support import Case, ODD, Pair, Thing

BIG = 10 ** 60 + 7


class IntegerTest(Case):

    def test_integers(self):
        for value in (0, 1, -1, 7, BIG, -BIG, 10 ** 4000):
            self.assertIs(is_integer(value), True)

    def test_other_values(self):
        for value in ODD + ([], (), [1], (1,), (1, 1), [[1]]):
            self.assertIs(is_integer(value), False)

    def test_by_name(self):
        self.assertIs(is_integer(value=3), True)


class WithinTest(Case):

    def test_bounds(self):
        for value in range(-6, 7):
            for least in (None, -5, -1, 0, 2):
                for most in (None, -1, 0, 2, 5):
                    with self.subTest(value=value, least=least, most=most):
                        told = (least is None or least <= value) and (most is None or value <= most)
                        self.assertIs(is_within(value, least, most), told)

    def test_least_equal_to_most(self):
        self.assertEqual([is_within(value, 4, 4) for value in (3, 4, 5)], [False, True, False])

    def test_no_bounds(self):
        self.assertEqual([is_within(value, None, None) for value in (BIG, -BIG, 0)], [True, True, True])
        self.assertEqual([is_within(BIG, BIG, None), is_within(BIG, None, BIG - 1)], [True, False])

    def test_other_values(self):
        for value in ODD + ([1], (1, 1)):
            for least, most in ((None, None), (0, 3), (None, 3), (0, None)):
                self.assertIs(is_within(value, least, most), False)

    def test_by_name(self):
        self.assertIs(is_within(most=3, value=4, least=1), False)
        self.assertIs(is_within(most=5, value=4, least=1), True)


class NumberTest(Case):

    def test_integers(self):
        for value in (0, 5, -5, BIG, -BIG):
            self.assertIs(is_number(value), True)

    def test_pairs(self):
        for value in ((0, 1), (1, 1), (-1, 1), (3, 7), (-3, 7), (BIG, 2), (1, BIG), (BIG, BIG + 1), (6, 35)):
            with self.subTest(value):
                self.assertIs(is_number(value), True)
                self.assertIs(is_number(list(value)), True)
                self.assertIs(is_number(Pair(*value)), True)

    def test_pairs_that_are_none(self):
        for value in ((0, 2), (0, 0), (0, -1), (1, 0), (-1, 0), (1, -1), (3, -7), (-3, -7), (2, 4), (-2, 4),
                      (6, 3), (BIG, BIG), (2 * BIG, 4), (15, 35)):
            with self.subTest(value):
                self.assertIs(is_number(value), False)
                self.assertIs(is_number(list(value)), False)

    def test_other_values(self):
        for value in ODD + ((), [], (1,), [1], (1, 2, 3), (1, True), (True, 2), (False, 1), (1, None), ("1", "2"),
                            (1.0, 2), ((1,), 2), ((1, 2), 1), [(1, 2), (1, 2)], [[1, 2]], "12", b"12",
                            {1: 2, 2: 3}, (Thing(), 1), (1, Thing())):
            self.assertIs(is_number(value), False)


class RowTest(Case):

    def test_rows(self):
        for value in ((1,), (0, 1), (2, 4), (-3, 0, 0), (0,) * 29 + (5,), (BIG, -BIG)):
            with self.subTest(value):
                self.assertIs(is_row(value, len(value)), True)
                self.assertIs(is_row(list(value), len(value)), True)
        self.assertIs(is_row(Pair(0, 3), 2), True)
        self.assertIs(is_row(many=2, value=[0, 3]), True)

    def test_other_lengths(self):
        for many in range(1, 8):
            for length in range(0, 9):
                with self.subTest(many=many, length=length):
                    self.assertIs(is_row((1,) * length, many), many == length)
                    self.assertIs(is_plain((1,) * length, many), many == length)

    def test_zeros(self):
        for many in (1, 2, 3, 30):
            self.assertIs(is_row((0,) * many, many), False)
            self.assertIs(is_plain([0] * many, many), False)

    def test_other_values(self):
        for value in ODD + ([], ()):
            for many in (1, 2, 3):
                self.assertIs(is_row(value, many), False)
                self.assertIs(is_plain(value, many), False)

    def test_other_values_within(self):
        for value in ODD + ([], (1,), [1, 2]):
            for row in ((value, 1), [1, value], (value, value)):
                self.assertIs(is_row(row, 2), False)
                self.assertIs(is_plain(row, 2), False)


class PlainTest(Case):

    def test_plain_rows(self):
        for value in ((1,), (0, 1), (0, 0, 1, -5), (2, 3), (6, 10, 15), (2, -4, 3), (BIG, BIG + 1), (1, -BIG)):
            with self.subTest(value):
                self.assertIs(is_plain(value, len(value)), True)
                self.assertIs(is_plain(list(value), len(value)), True)

    def test_rows_that_are_not_plain(self):
        for value in ((2,), (-1,), (0, -1), (0, 2), (-1, 2), (2, 4), (-2, 3), (6, 10, 14), (0, 0, -1, 5),
                      (BIG, BIG), (2 * BIG, 4), (0, 3, 0)):
            with self.subTest(value):
                self.assertIs(is_row(value, len(value)), True)
                self.assertIs(is_plain(value, len(value)), False)

    def test_by_name(self):
        self.assertIs(is_plain(many=3, value=(1, 0, 0)), True)


if __name__ == "__main__":
    unittest.main()

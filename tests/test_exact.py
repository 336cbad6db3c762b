"""Exact numbers."""

import unittest
from fractions import Fraction

from sixpins.checks import is_number
from sixpins.errors import BadNumber
from sixpins.exact import number
from tests.support import Case, ODD, Source

NONE = ODD + ([], (), [1], (1, 2), (1, 1), [[1]])


class NumberTest(Case):

    def test_small_ones(self):
        for top in range(-12, 13):
            for under in [*range(-12, 0), *range(1, 13)]:
                with self.subTest(top=top, under=under):
                    told = Fraction(top, under)
                    self.same(number(top, under), (told.numerator, told.denominator))

    def test_zero(self):
        for under in (1, 5, -1, -5, 10 ** 30):
            self.same(number(0, under), (0, 1))

    def test_one_argument(self):
        for top in (0, 3, -3, 10 ** 30):
            self.same(number(top), (top, 1))
            self.same(number(top=top), (top, 1))

    def test_thirty_digits(self):
        source = Source(5)
        for _ in range(50):
            shared, top, under = source.row(3, 10 ** 15)
            if shared and under:
                told = Fraction(top, under)
                pair = number(shared * top, shared * under)
                self.same(pair, (told.numerator, told.denominator))
                self.assertIs(is_number(pair), True)

    def test_by_name(self):
        self.same(number(under=-4, top=6), (-3, 2))
        self.same(number(6, under=4), (3, 2))

    def test_no_integers(self):
        for value in NONE:
            self.refused(BadNumber, "top", number, value)
            self.refused(BadNumber, "top", number, value, 2)
            self.refused(BadNumber, "under", number, 2, value)
            self.refused(BadNumber, "under", number, top=2, under=value)

    def test_zero_under(self):
        for top in (0, 1, -7, 10 ** 30):
            self.refused(BadNumber, "under", number, top, 0)

    def test_top_comes_first(self):
        for value in NONE + (0,):
            self.refused(BadNumber, "top", number, None, value)
            self.refused(BadNumber, "top", number, under=value, top="1")


if __name__ == "__main__":
    unittest.main()

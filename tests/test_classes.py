"""Curve classes: how often they meet."""

import unittest

from sixpins.classes import BENT, line_class, times_crossed
from tests.support import Case, Source


class ClassesTest(Case):

    def test_as_the_formula_tells(self):
        source = Source(95)
        for _ in range(50):
            one, other = source.row(7, 5), source.row(7, 5)
            d, m0, m1, m2, m3, m4, m5 = one
            e, n0, n1, n2, n3, n4, n5 = other
            told = d * e - m0 * n0 - m1 * n1 - m2 * n2 - m3 * n3 - m4 * n4 - m5 * n5
            self.same(times_crossed(one, other), told)
            self.same(times_crossed(list(other), list(one)), told)

    def test_lines(self):
        self.same(line_class((0, 2, 5)), (1, 1, 0, 1, 0, 0, 1))
        self.same(times_crossed(line_class((0, 1, 2)), line_class((3, 4, 5))), 1)
        self.same(times_crossed(line_class((0, 1, 2)), line_class((0, 4, 5))), 0)
        self.same(times_crossed(line_class((0, 1, 2)), line_class((0, 1, 2))), -2)
        self.same(times_crossed(BENT, BENT), -2)
        self.same(times_crossed(BENT, line_class((0, 1, 2))), -1)


if __name__ == "__main__":
    unittest.main()

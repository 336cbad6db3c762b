"""Reduced bases, kernels and ranks."""

import time
import unittest

from sixpins.errors import BadNumber, BadRow
from sixpins.kernels import kernel, rank, reduced
from tests.support import Case, ODD, ODD_INTEGERS, Source, dotted, is_reduced, reduced_by_hand

ALL = (reduced, kernel, rank)


def mixed_rows(source, basis, many, most):
    """So many sums of integers times the rows of a basis."""
    told = []
    for _ in range(many):
        scales = source.row(len(basis), most)
        told.append(tuple(dotted(scales, column) for column in zip(*basis)))
    return told


class SpaceTest(Case):

    def check(self, rows, wide):
        """All that is told of the three functions, for these rows."""
        told, other = reduced(rows, wide), kernel(rows, wide)
        self.same(told, reduced_by_hand(rows, wide))
        self.assertTrue(is_reduced(told, wide))
        self.assertTrue(is_reduced(other, wide))
        self.assertEqual(rank(rows, wide), len(told))
        self.assertEqual(len(told) + len(other), wide)
        self.assertEqual(rank(other, wide), len(other))
        self.same(reduced(told, wide), told)
        self.same(reduced(other, wide), other)
        self.assertTrue(all(dotted(row, right) == 0 for row in rows for right in other))
        self.same(kernel(other, wide), told)

    def test_small_spaces(self):
        source = Source(1)
        for _ in range(300):
            wide = source.within(1, 6)
            rows = [source.row(wide, 3) for _ in range(source.within(0, 8))]
            with self.subTest(rows):
                self.check(rows, wide)

    def test_spaces_of_low_rank(self):
        source = Source(2)
        for _ in range(100):
            wide = source.within(2, 10)
            basis = [source.row(wide, 9) for _ in range(source.within(1, wide))]
            rows = mixed_rows(source, basis, source.within(1, 12), 5)
            with self.subTest(rows):
                self.check(rows, wide)

    def test_sparse_rows(self):
        source = Source(7)
        for _ in range(100):
            wide = source.within(3, 12)
            rows = [tuple(number if not source.below(3) else 0 for number in source.row(wide, 4))
                    for _ in range(source.within(1, 9))]
            with self.subTest(rows):
                self.check(rows, wide)

    def test_no_rows(self):
        for wide in (1, 2, 30):
            units = tuple(tuple(int(place == at) for place in range(wide)) for at in range(wide))
            for rows in ([], (), [(0,) * wide], [[0] * wide] * 40):
                self.same(reduced(rows, wide), ())
                self.same(kernel(rows, wide), units)
                self.same(rank(rows, wide), 0)
            self.same(reduced(units, wide), units)
            self.same(kernel(units, wide), ())
            self.same(rank(units, wide), wide)

    def test_width_one(self):
        self.same(reduced([(0,), (-6,), (4,)], 1), ((1,),))
        self.same(kernel([(0,), (-6,)], 1), ())
        self.same(kernel([(0,)], 1), ((1,),))

    def test_the_same_rows_again(self):
        rows = [(1, 2, 3), (2, 4, 6), (-1, -2, -3), (0, 0, 0), (1, 2, 3)]
        self.same(reduced(rows, 3), ((1, 2, 3),))
        self.same(kernel(rows, 3), ((3, 0, -1), (0, 3, -2)))
        self.same(rank(rows, 3), 1)
        self.same(reduced(rows * 8, 3), ((1, 2, 3),))

    def test_order_and_scale_make_no_difference(self):
        source = Source(9)
        for _ in range(50):
            rows = [source.row(5, 6) for _ in range(4)]
            other = []
            for row in rows[::-1]:
                scale = source.within(1, 9)
                other.append([-scale * number for number in row])
            self.same(reduced(other, 5), reduced(rows, 5))
            self.same(kernel(other, 5), kernel(rows, 5))

    def test_fractions_within(self):
        self.same(reduced([(2, 0, 1), (0, 3, 1)], 3), ((2, 0, 1), (0, 3, 1)))
        self.same(reduced([(2, 3, 0), (3, 5, 7)], 3), ((1, 0, -21), (0, 1, 14)))
        self.same(kernel([(2, 0, 1), (0, 3, 1)], 3), ((3, 2, -6),))

    def test_by_name(self):
        self.same(reduced(wide=2, rows=[[2, 4]]), ((1, 2),))
        self.same(kernel(wide=2, rows=[[2, 4]]), ((2, -1),))
        self.same(rank(wide=2, rows=[[2, 4]]), 1)

    def test_what_is_passed_is_not_changed(self):
        rows = [[2, 4, 6], [0, 3, 3], [1, 1, 1]]
        for call in ALL:
            call(rows, 3)
        self.assertEqual(rows, [[2, 4, 6], [0, 3, 3], [1, 1, 1]])


class BoundsTest(Case):

    def test_most_rows(self):
        for call in ALL:
            call([(1, 2)] * 40, 2)
            self.refused(BadRow, "rows", call, [(1, 2)] * 41, 2)
            self.refused(BadRow, "rows", call, ((1, 2),) * 100, 2)

    def test_widths(self):
        for call in ALL:
            call([(1,)], 1)
            call([(1,) * 30], 30)
            for wide in ODD_INTEGERS + (0, 31, -1):
                self.refused(BadNumber, "wide", call, [(1,)], wide)
                self.refused(BadNumber, "wide", call, [], wide)
            self.refused(BadNumber, "wide", call, [(1,) * 31], 31)

    def test_wide_is_refused_ahead_of_rows(self):
        for call in ALL:
            for rows in (None, 5, [(1, 2), (3,)], [(1, None)], [(1,)] * 41):
                self.refused(BadNumber, "wide", call, rows, 0)
                self.refused(BadNumber, "wide", call, rows=rows, wide=None)

    def test_unlike_widths(self):
        for call in ALL:
            for rows in ([(1, 2), (3,)], [(1,), (1, 2)], [(1, 2, 3)], [()], [(1, 2), ()], [[(1, 2)]], [(0,)]):
                self.refused(BadRow, "rows", call, rows, 2)

    def test_other_values(self):
        for call in ALL:
            for value in ODD + (5,):
                self.refused(BadRow, "rows", call, value, 2)
                self.refused(BadRow, "rows", call, [value], 2)
                self.refused(BadRow, "rows", call, [(1, 2), value], 2)
            for value in ODD + ([], (1,)):
                self.refused(BadRow, "rows", call, [(1, value)], 2)
                self.refused(BadRow, "rows", call, [(1, 2), [value, 1]], 2)


class BigTest(Case):

    def test_forty_rows_of_thirty(self):
        source = Source(4)
        for digits in (12, 30):
            full = [source.row(30, 10 ** digits) for _ in range(40)]
            basis = [source.row(30, 10 ** (digits // 2 - 1)) for _ in range(17)]
            low = mixed_rows(source, basis, 40, 10 ** (digits // 2 - 1))
            started = time.monotonic()
            self.assertEqual([rank(full, 30), len(reduced(full, 30)), kernel(full, 30)], [30, 30, ()])
            told, other = reduced(low, 30), kernel(low, 30)
            self.assertEqual([rank(low, 30), len(told), len(other)], [17, 17, 13])
            self.assertEqual(len(kernel(full[:29], 30)), 1)
            self.assertLess(time.monotonic() - started, 20)
            self.same(reduced(basis, 30), told)
            self.assertTrue(is_reduced(told, 30) and is_reduced(other, 30))
            self.assertTrue(all(dotted(row, right) == 0 for row in low for right in other))
            self.assertTrue(all(dotted(row, right) == 0 for row in full[:29] for right in kernel(full[:29], 30)))

    def test_what_is_returned_may_be_passed_on(self):
        source = Source(5)
        for many in (10, 20, 29):
            rows = [source.row(30, 10 ** 30) for _ in range(many)]
            started = time.monotonic()
            told, other = reduced(rows, 30), kernel(rows, 30)
            self.same(reduced(told, 30), told)
            self.same(kernel(told, 30), other)
            self.same(reduced(other, 30), other)
            self.same(kernel(other, 30), told)
            sums = mixed_rows(source, told, 40, 10 ** 6)
            self.same(reduced(sums, 30), told)
            self.same(kernel(sums, 30), other)
            self.assertEqual(rank([*told[:20], *other], 30), len(told[:20]) + len(other))
            self.assertLess(time.monotonic() - started, 20)


if __name__ == "__main__":
    unittest.main()

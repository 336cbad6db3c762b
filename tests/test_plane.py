"""Spots, lines of the plane, and forms of second degree."""

import unittest

from sixpins.errors import BadRow, Misfit
from sixpins.plane import crossed, in_line, joined, seconds
from tests.support import (Case, ODD, Source, determinant_by_hand, dotted, is_reduced, listed, plain_by_hand,
                           rank_by_hand, scaled, sum_of, value_by_hand, wrong_rows)

BOTH = (joined, crossed)


def conic_row(spot):
    """The values of xx, xy, xz, yy, yz, zz."""
    x, y, z = spot
    return (x * x, x * y, x * z, y * y, y * z, z * z)


class JoinedTest(Case):

    def test_joins(self):
        source = Source(31)
        for _ in range(100):
            one, other = source.nonzero(3, 9), source.nonzero(3, 9)
            if plain_by_hand(one) == plain_by_hand(other):
                continue
            for call in BOTH:
                told = call(one, other)
                self.assertTrue(is_reduced((told,), 3))
                self.assertEqual([dotted(told, one), dotted(told, other)], [0, 0])
                self.same(call(other, one), told)
                self.same(call(scaled(one, -2), scaled(other, 5)), told)

    def test_joins_cross_in_the_spot_again(self):
        source = Source(32)
        for _ in range(50):
            spots = [source.nonzero(3, 99) for _ in range(3)]
            if determinant_by_hand(spots) == 0:
                continue
            lines = joined(spots[0], spots[1]), joined(spots[0], spots[2])
            self.same(crossed(*lines), plain_by_hand(spots[0]))
            self.same(joined(crossed(*lines), spots[1]), lines[0])

    def test_known_ones(self):
        self.same(joined((1, 0, 0), (0, 1, 0)), (0, 0, 1))
        self.same(joined([0, 0, 5], [0, -3, 0]), (1, 0, 0))
        self.same(crossed((1, -1, 0), (0, 1, -1)), (1, 1, 1))
        big = 10 ** 30 - 1
        self.same(joined((1, big, 0), (0, 0, big)), (big, -1, 0))

    def test_equal_ones(self):
        for call in BOTH:
            for other in ((1, 2, 3), (2, 4, 6), [-1, -2, -3]):
                self.refused(Misfit, "other", call, (1, 2, 3), other)
                self.refused(Misfit, "other", call, (-3, -6, -9), other)

    def test_wrong_rows(self):
        for call in BOTH:
            for value in wrong_rows(3):
                self.refused(BadRow, "one", call, value, (1, 2, 3))
                self.refused(BadRow, "one", call, value, None)
                self.refused(BadRow, "one", call, other=value, one=value)
                self.refused(BadRow, "other", call, (1, 2, 3), value)

    def test_by_name(self):
        self.same(joined(other=(0, 1, 0), one=(1, 0, 0)), (0, 0, 1))
        self.same(crossed(other=(1, 1, 1), one=(0, 0, 1)), (1, -1, 0))


class InLineTest(Case):

    def test_two_spots(self):
        self.assertIs(in_line([(1, 0, 0), (0, 1, 0)]), True)
        self.assertIs(in_line([(1, 0, 0), (2, 0, 0)]), True)

    def test_spots_in_a_line(self):
        source = Source(33)
        for many in range(2, 7):
            for _ in range(15):
                basis = [source.nonzero(3, 9), source.nonzero(3, 9)]
                spots = [sum_of((source.within(1, 9), source.within(-9, 9)), basis) for _ in range(many)]
                spots = [spot if any(spot) else basis[0] for spot in spots]
                self.assertIs(in_line(spots), True)
                self.assertIs(in_line(tuple(scaled(spot, -2) for spot in spots)), True)

    def test_all_but_one(self):
        for many in range(3, 7):
            for at in range(many):
                spots = [(1, k, 2 * k + 1) for k in range(many)]
                self.assertIs(in_line(spots), True)
                spots[at] = (1, at, 2 * at + 2)
                self.assertIs(in_line(spots), False)

    def test_equal_spots(self):
        self.assertIs(in_line([(1, 2, 3)] * 6), True)
        self.assertIs(in_line([(1, 2, 3), (2, 4, 6), (1, 0, 0), (-1, 0, 0)]), True)
        self.assertIs(in_line([(1, 2, 3), (2, 4, 6), (1, 0, 0), (0, 1, 0)]), False)
        self.assertIs(in_line([(1, 2, 3), (1, 0, 0), (1, 0, 0), (1, 0, 0), (0, 1, 0), (1, 2, 3)]), False)

    def test_as_ranks_tell(self):
        source = Source(34)
        for _ in range(200):
            spots = [source.nonzero(3, 1) for _ in range(source.within(2, 6))]
            self.assertIs(in_line(spots), rank_by_hand(spots, 3) <= 2)

    def test_wrong_lists(self):
        for value in ODD + (5, [], [(1, 2, 3)], [(1, 2, 3)] * 7, ((1, 2, 3),) * 12, (1, 2, 3), [1, 2]):
            self.refused(BadRow, "spots", in_line, value)
        for value in wrong_rows(3):
            self.refused(BadRow, "spots", in_line, [(1, 2, 3), value])
            self.refused(BadRow, "spots", in_line, spots=[value, (1, 2, 3), (1, 0, 0)])


class SecondsTest(Case):

    def check(self, spots):
        """All that is told of the forms at these spots."""
        told = seconds(spots)
        self.assertTrue(is_reduced(told, 6))
        self.assertEqual(len(told), 6 - rank_by_hand([conic_row(spot) for spot in spots], 6))
        for form in told:
            self.assertEqual([value_by_hand(form, 3, 2, spot) for spot in spots], [0] * len(spots))
        self.same(seconds(listed(spots)), told)
        self.same(seconds([scaled(spot, -3) for spot in spots][::-1]), told)

    def test_one_to_six_spots(self):
        source = Source(35)
        for many in range(1, 7):
            for _ in range(20):
                self.check([source.nonzero(3, 6) for _ in range(many)])

    def test_equal_spots_and_spots_in_a_line(self):
        self.check([(1, 2, 3)] * 6)
        self.check([(1, k, 0) for k in range(6)])
        self.check([(1, 0, 0), (0, 1, 0), (1, 1, 0), (0, 0, 1), (1, 2, 1), (1, 2, -1)])
        self.check([(1, k, k * k) for k in range(6)])
        self.assertEqual(len(seconds([(1, k, 0) for k in range(6)])), 3)

    def test_order_of_the_monomials(self):
        for at, spot in ((0, (1, 0, 0)), (3, (0, 1, 0)), (5, (0, 0, 1))):
            self.same(seconds([spot]), tuple(tuple(int(place == k) for place in range(6)) for k in range(6) if k != at))
        self.same(seconds([(1, k, k * k) for k in range(5)]), ((0, 0, 1, -1, 0, 0),))

    def test_general_spots_have_none(self):
        self.same(seconds([(1, 0, 0), (0, 1, 0), (0, 0, 1), (1, 1, 1), (1, 2, 3), (1, 3, 2)]), ())

    def test_long_integers(self):
        source = Source(36)
        self.check([source.nonzero(3, 10 ** 30) for _ in range(5)])

    def test_wrong_lists(self):
        for value in ODD + (5, [], (), [(1, 2, 3)] * 7, (1, 2, 3), [1, 2]):
            self.refused(BadRow, "spots", seconds, value)
        for value in wrong_rows(3):
            self.refused(BadRow, "spots", seconds, [value])
            self.refused(BadRow, "spots", seconds, spots=[(1, 2, 3), value])


if __name__ == "__main__":
    unittest.main()

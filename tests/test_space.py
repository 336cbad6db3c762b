"""Places, planes and lines of space."""

import unittest

from sixpins.errors import BadRow, Misfit
from sixpins.space import (in_plane, is_line, line_of_planes, line_through, meet, on_line, on_plane, pierced,
                           plane_basis, plane_of, plane_through)
from tests.support import (Case, ODD, Source, dotted, is_reduced, listed, plain_by_hand, rank_by_hand, reduced_by_hand,
                           scaled, sum_of, wrong_rows)

LINE = ((1, 0, -1, -2), (0, 1, 2, 3))
PLACE = (1, 2, 3, 4)


def wrong_lines():
    """Values of all kinds that tell no line."""
    told = [*ODD, 0, 7, [], (), PLACE, [PLACE], [PLACE] * 2, [PLACE, scaled(PLACE, -2)], [PLACE, (1, 0, 0, 0)] * 2,
            [PLACE, (1, 0, 0, 0), (0, 1, 0, 0)], [(1, 2), (3, 4)]]
    for value in wrong_rows(4):
        told += [[PLACE, value], (value, PLACE)]
    return told


def two_places(source, most=6):
    """Two unlike places, as rows that need not be plain."""
    one, other = source.nonzero(4, most), source.nonzero(4, most)
    return (one, other) if rank_by_hand([one, other], 4) == 2 else two_places(source, most)


def other_rows(source, line):
    """The same line, by two other places of it."""
    while True:
        rows = [sum_of(source.row(2, 5), line) for _ in range(2)]
        if rank_by_hand(rows, 4) == 2:
            return rows


class ThroughTest(Case):

    def test_lines(self):
        source = Source(41)
        for at in range(100):
            one, other = two_places(source, 6 if at % 2 else 10 ** 30)
            told = line_through(one, other)
            self.same(told, reduced_by_hand([one, other], 4))
            self.assertTrue(is_line(told))
            self.same(line_through(scaled(other, -2), listed(one)), told)
            self.same(line_through(*other_rows(source, (one, other))), told)

    def test_lines_of_planes(self):
        source = Source(42)
        for at in range(100):
            one, other = two_places(source, 6 if at % 2 else 10 ** 30)
            told = line_of_planes(one, other)
            self.assertTrue(is_line(told))
            self.assertEqual([dotted(plane, place) for plane in (one, other) for place in told], [0] * 4)
            self.same(line_of_planes(scaled(other, 3), scaled(one, -1)), told)
            self.same(line_of_planes(*told), line_through(one, other))

    def test_errors(self):
        for call in (line_through, line_of_planes):
            for other in (PLACE, scaled(PLACE, -2)):
                self.refused(Misfit, "other", call, PLACE, other)
            for value in wrong_rows(4):
                self.refused(BadRow, "one", call, value, PLACE)
                self.refused(BadRow, "one", call, value, value)
                self.refused(BadRow, "other", call, other=value, one=PLACE)
            self.same(call(other=(0, 1, 0, 0), one=(1, 0, 0, 0)), call((1, 0, 0, 0), (0, 1, 0, 0)))

    def test_known_ones(self):
        self.same(line_through((1, 0, 0, 0), (0, 1, 0, 0)), ((1, 0, 0, 0), (0, 1, 0, 0)))
        self.same(line_of_planes((1, 0, 0, 0), (0, 1, 0, 0)), ((0, 0, 1, 0), (0, 0, 0, 1)))


class IsLineTest(Case):

    def test_lines(self):
        for line in (LINE, ((1, 0, 0, 0), (0, 1, 0, 0)), ((0, 0, 1, 0), (0, 0, 0, 1)), ((2, 0, -1, 0), (0, 2, -1, 0)),
                     ((1, 5, 0, 7), (0, 0, 1, 2)), ((1, 5, 6, 0), (0, 0, 0, 1)), ((0, 3, 0, 2), (0, 0, 3, 1))):
            with self.subTest(line):
                self.assertIs(is_line(line), True)
                self.assertIs(is_line(listed(line)), True)
                self.assertIs(is_line([line[0], list(line[1])]), True)
                self.assertIs(is_line(line[::-1]), False)
                self.assertIs(is_line((scaled(line[0], 2), line[1])), False)
                self.assertIs(is_line((line[0], scaled(line[1], -1))), False)
                self.assertIs(is_line((sum_of((1, 1), line), line[1])), False)
                self.assertIs(is_line(line + ((0, 0, 0, 0),)), False)
                self.assertIs(is_line(line[:1]), False)

    def test_rows_that_are_no_reduced_basis(self):
        for value in (((1, 1, 1, 1), (1, 2, 3, 4)), ((1, 0, 0, 0), (2, 0, 0, 0)), ((1, 0, 0, 0), (1, 0, 0, 0)),
                      ((1, 1, 0, 0), (0, 1, 0, 0)), ((1, 0, 1, 0), (0, 0, 1, 0)), ((1, 0, 0, 0), (1, 1, 0, 0)),
                      ((0, 1, 0, 0), (1, 0, 0, 0)), ((1, 0, 0, 0), (0, 0, 0, 0)), ((1, 0, 0), (0, 1, 0)),
                      ((1, 0, 0, 0, 0), (0, 1, 0, 0, 0)), ((2, 0, 0, 0), (0, 1, 0, 0)), ((1, 0, 0, 0), (0, -1, 0, 0))):
            self.assertIs(is_line(value), False)

    def test_as_elimination_tells(self):
        source = Source(43)
        for _ in range(300):
            rows = tuple(source.row(4, 1) for _ in range(2))
            self.assertIs(is_line(rows), len(reduced_by_hand(rows, 4)) == 2 and reduced_by_hand(rows, 4) == rows)

    def test_values_of_all_kinds(self):
        for value in wrong_lines():
            self.assertIs(is_line(value), False)
        self.assertIs(is_line(value=LINE), True)


class OnTest(Case):

    def test_on_line(self):
        source = Source(44)
        for _ in range(80):
            line = two_places(source)
            place = sum_of((source.within(1, 5), source.within(-5, 5)), line)
            other = source.nonzero(4, 3)
            for told in (line, other_rows(source, line), listed(line)):
                self.assertIs(on_line(told, place), True)
                self.assertIs(on_line(told, scaled(place, -2)), True)
                self.assertIs(on_line(told, other), rank_by_hand([*line, other], 4) == 2)

    def test_on_plane(self):
        source = Source(45)
        for _ in range(150):
            plane, place = source.nonzero(4, 2), source.nonzero(4, 2)
            self.assertIs(on_plane(plane, place), dotted(plane, place) == 0)
            self.assertIs(on_plane(scaled(plane, -2), scaled(place, 3)), dotted(plane, place) == 0)

    def test_in_plane(self):
        source = Source(46)
        for _ in range(150):
            line, plane = two_places(source, 2), source.nonzero(4, 2)
            told = all(dotted(plane, place) == 0 for place in line)
            self.assertIs(in_plane(line, plane), told)
            self.assertIs(in_plane(other_rows(source, line), scaled(plane, -2)), told)
            place = source.nonzero(4, 3)
            if rank_by_hand([*line, place], 4) == 3:
                through = plane_through(line, place)
                self.assertIs(in_plane(line, through), True)
                self.assertIs(in_plane(other_rows(source, line), through), True)

    def test_one_place_in_the_plane_is_not_enough(self):
        self.assertIs(in_plane([(1, 0, 0, 0), (0, 1, 0, 0)], (0, 1, 0, 0)), False)
        self.assertIs(in_plane([(1, 0, 0, 0), (0, 1, 0, 0)], (1, 0, 0, 0)), False)
        self.assertIs(in_plane([(1, 0, 0, 0), (0, 1, 0, 0)], (0, 0, 5, 2)), True)

    def test_long_integers(self):
        big = 10 ** 30 - 1
        line = [(1, big, 0, 0), (0, 1, big, 0)]
        self.assertIs(on_line(line, (big, big * big + 1, big, 0)), True)
        self.assertIs(on_line(line, (big, big * big + 1, big - 1, 0)), False)
        self.assertIs(in_plane(line, (big * big, -big, 1, 5)), True)
        self.assertIs(in_plane(line, (big * big, -big, 2, 5)), False)

    def test_errors(self):
        for value in wrong_lines():
            self.refused(BadRow, "line", on_line, value, PLACE)
            self.refused(BadRow, "line", on_line, value, None)
            self.refused(BadRow, "line", in_plane, value, PLACE)
            self.refused(BadRow, "line", in_plane, plane=0, line=value)
        for value in wrong_rows(4):
            self.refused(BadRow, "place", on_line, LINE, value)
            self.refused(BadRow, "plane", in_plane, LINE, value)
            self.refused(BadRow, "plane", on_plane, value, PLACE)
            self.refused(BadRow, "plane", on_plane, value, value)
            self.refused(BadRow, "place", on_plane, place=value, plane=PLACE)

    def test_by_name(self):
        self.assertIs(on_line(place=(1, 0, -1, -2), line=LINE), True)
        self.assertIs(on_plane(place=(0, 1, 0, 0), plane=(1, 0, 0, 0)), True)
        self.assertIs(in_plane(plane=(1, -2, 1, 0), line=LINE), True)


class MeetTest(Case):

    def test_lines_with_a_place_in_common(self):
        source = Source(47)
        for at in range(60):
            most = 6 if at % 3 else 10 ** 30
            common, one, other = (source.nonzero(4, most) for _ in range(3))
            if rank_by_hand([common, one, other], 4) < 3:
                continue
            first, second = other_rows(source, (common, one)), other_rows(source, (common, other))
            self.same(meet(first, second), plain_by_hand(common))
            self.same(meet(listed(second), listed(first)), plain_by_hand(common))
            plane = plane_of(first, second)
            self.assertTrue(is_reduced((plane,), 4))
            self.assertEqual([dotted(plane, row) for row in (common, one, other)], [0, 0, 0])
            self.same(plane_of(second, first), plane)

    def test_skew_lines(self):
        source = Source(48)
        for at in range(60):
            most = 6 if at % 3 else 10 ** 30
            one, other = two_places(source, most), two_places(source, most)
            if rank_by_hand([*one, *other], 4) == 4:
                self.assertIsNone(meet(one, other))
                self.assertIsNone(meet(other, one))
                self.refused(Misfit, "other", plane_of, one, other)

    def test_one_line(self):
        source = Source(49)
        for _ in range(20):
            line = two_places(source)
            for call in (meet, plane_of):
                self.refused(Misfit, "other", call, line, other_rows(source, line))
                self.refused(Misfit, "other", call, line, line)

    def test_errors(self):
        for call in (meet, plane_of):
            for value in wrong_lines():
                self.refused(BadRow, "one", call, value, LINE)
                self.refused(BadRow, "one", call, value, value)
                self.refused(BadRow, "other", call, other=value, one=LINE)
        self.same(meet(other=[(1, 0, -1, -2), (0, 0, 0, 1)], one=LINE), (1, 0, -1, -2))
        self.same(plane_of(other=[(1, 0, -1, -2), (0, 0, 0, 1)], one=LINE), (1, -2, 1, 0))


class PlaneTest(Case):

    def test_plane_through(self):
        source = Source(50)
        for at in range(80):
            most = 4 if at % 3 else 10 ** 30
            line, place = two_places(source, most), source.nonzero(4, most)
            rows = other_rows(source, line)
            if rank_by_hand([*line, place], 4) == 3:
                told = plane_through(rows, place)
                self.assertTrue(is_reduced((told,), 4))
                self.assertEqual([dotted(told, row) for row in (*line, place)], [0, 0, 0])
                self.same(plane_through(listed(line), scaled(place, -5)), told)
            on_it = sum_of((source.within(1, 5), source.within(-5, 5)), line)
            self.refused(Misfit, "place", plane_through, rows, on_it)

    def test_pierced(self):
        source = Source(51)
        for at in range(120):
            most = 2 if at % 3 else 10 ** 30
            line, plane = two_places(source, most), source.nonzero(4, most)
            told = pierced(line, plane)
            if in_plane(line, plane):
                self.assertIsNone(told)
            else:
                self.assertTrue(is_reduced((told,), 4))
                self.assertTrue(on_line(line, told) and on_plane(plane, told))
            self.same(pierced(other_rows(source, line), scaled(plane, -2)), told)

    def test_pierced_within_the_plane(self):
        self.assertIsNone(pierced(LINE, (1, -2, 1, 0)))
        self.assertIsNone(pierced(LINE, (2, -3, 0, 1)))
        self.same(pierced(LINE, (1, 0, 0, 0)), (0, 1, 2, 3))
        self.same(pierced(LINE, (0, 1, 0, 0)), (1, 0, -1, -2))

    def test_plane_basis(self):
        source = Source(52)
        for at in range(80):
            plane = source.nonzero(4, 3 if at % 3 else 10 ** 30)
            told = plane_basis(plane)
            self.assertTrue(is_reduced(told, 4))
            self.assertEqual([dotted(plane, row) for row in told], [0, 0, 0])
            self.same(plane_basis(scaled(plane, -4)), told)
        for at in range(4):
            plane = tuple(int(place == at) for place in range(4))
            rows = tuple(tuple(int(place == k) for place in range(4)) for k in range(4) if k != at)
            self.same(plane_basis(plane=plane), rows)

    def test_errors(self):
        for value in wrong_lines():
            self.refused(BadRow, "line", plane_through, value, PLACE)
            self.refused(BadRow, "line", plane_through, place=None, line=value)
            self.refused(BadRow, "line", pierced, value, PLACE)
            self.refused(BadRow, "line", pierced, plane=[], line=value)
        for value in wrong_rows(4):
            self.refused(BadRow, "place", plane_through, LINE, value)
            self.refused(BadRow, "plane", pierced, LINE, value)
            self.refused(BadRow, "plane", plane_basis, value)
        self.same(plane_through(place=(1, 0, 0, 0), line=LINE), (0, 1, -2, 1))
        self.same(pierced(plane=(1, 0, 0, 0), line=LINE), (0, 1, 2, 3))


if __name__ == "__main__":
    unittest.main()

"""Tables and what they lead."""

import unittest

from sixpins.errors import BadRow, BadTable, Misfit
from sixpins.tables import determinant, led, multiplied, plain_table, undone
from tests.support import (Case, ODD, Source, determinant_by_hand, dotted, listed, plain_by_hand, rank_by_hand, scaled,
                           sum_of, wrong_rows)

ONE_TABLE = (determinant, plain_table, undone)
RIGHT = [[1, 2], [3, 4]]
WRONG = ODD + (5, [], (), [[1]], ((7,),), [[1, 2]], [[1, 2], [3]], [[1], [2, 3]], [[1, 2, 3], [4, 5, 6]],
               [[1, 2], [3, 4], [5, 6]], [[1, 2, 3], [4, 5, 6], [7, 8]], [1, 2], [[1, 2], 3], [[1, 2], None],
               [[1, 2], "34"], [[1, 2], [3, True]], [[1, 2], [None, 4]], [[1, 2], [3.0, 4]], [[1, 2], [[3], 4]],
               [[0] * 5] * 5, [[1, 0, 0, 0, 0], [0, 1, 0, 0, 0], [0, 0, 1, 0, 0], [0, 0, 0, 1, 0], [0, 0, 0, 0, 1]])


def tables(source, most=4, count=40):
    """Tables of two, three and four rows; some of them have a determinant of 0."""
    for at in range(count):
        many = 2 + at % 3
        table = [source.row(many, most) for _ in range(many)]
        if at % 4 == 3:
            table[-1] = sum_of(source.row(many - 1, 2), table[:-1])
        yield tuple(table)


def unit(many):
    """The table that leads each row to itself."""
    return tuple(tuple(int(at == place) for place in range(many)) for at in range(many))


class LedTest(Case):

    def test_rows(self):
        source = Source(21)
        for table in tables(source):
            row = source.nonzero(len(table), 6)
            image = [dotted(mine, row) for mine in table]
            with self.subTest(table=table, row=row):
                told = plain_by_hand(image) if any(image) else None
                self.same(led(table, row), told)
                self.same(led(listed(table), listed(row)), told)
                self.same(led(table, scaled(row, -3)), told)

    def test_none(self):
        self.assertIsNone(led([[1, 2], [2, 4]], (2, -1)))
        self.assertIsNone(led([[0, 0, 0]] * 3, (1, 2, 3)))
        self.assertIsNone(led([[0] * 4] * 4, (1, 2, 3, 4)))
        self.same(led([[0, 0], [0, 5]], (1, -1)), (0, 1))

    def test_long_integers(self):
        big = 10 ** 29 + 1
        self.same(led([[big, 0], [0, 1]], [1, big]), (1, 1))
        self.same(led([[1, -big], [0, 1]], [big, 1]), (0, 1))

    def test_wrong_rows(self):
        for many in (2, 3, 4):
            for value in wrong_rows(many):
                self.refused(BadRow, "row", led, unit(many), value)
            for other in (1, 2, 3, 4, 5):
                if other != many:
                    self.refused(BadRow, "row", led, unit(many), (1,) * other)

    def test_table_comes_first(self):
        for value in WRONG:
            for row in (None, [0, 0], (1, 2)):
                self.refused(BadTable, "table", led, value, row)
                self.refused(BadTable, "table", led, row=row, table=value)

    def test_by_name(self):
        self.same(led(row=(1, -1), table=RIGHT), (1, 1))


class MultipliedTest(Case):

    def test_single_steps(self):
        source = Source(22)
        for one in tables(source):
            many = len(one)
            other = tuple(source.row(many, 5) for _ in range(many))
            told = multiplied(one, other)
            with self.subTest(one=one, other=other):
                self.same(told, tuple(tuple(sum(one[i][j] * other[j][k] for j in range(many)) for k in range(many))
                                      for i in range(many)))
                self.same(multiplied(listed(one), listed(other)), told)
                self.same(multiplied(one, unit(many)), one)
                self.same(multiplied(unit(many), one), one)
                row = source.nonzero(many, 5)
                half = led(other, row)
                self.same(led(told, row), half and led(one, half))

    def test_order(self):
        self.same(multiplied([[1, 2], [3, 4]], [[0, 1], [1, 0]]), ((2, 1), (4, 3)))
        self.same(multiplied([[0, 1], [1, 0]], [[1, 2], [3, 4]]), ((3, 4), (1, 2)))

    def test_not_made_plain(self):
        self.same(multiplied([[-2, 0], [0, -2]], [[2, 0], [0, 2]]), ((-4, 0), (0, -4)))
        self.same(multiplied([[0, 0], [0, 0]], RIGHT), ((0, 0), (0, 0)))

    def test_unlike_sizes(self):
        for one in (2, 3, 4):
            for other in (2, 3, 4):
                if one != other:
                    self.refused(Misfit, "other", multiplied, unit(one), unit(other))

    def test_order_of_errors(self):
        for value in WRONG:
            self.refused(BadTable, "one", multiplied, value, RIGHT)
            self.refused(BadTable, "one", multiplied, value, unit(3))
            self.refused(BadTable, "one", multiplied, value, None)
            self.refused(BadTable, "other", multiplied, RIGHT, value)
            self.refused(BadTable, "other", multiplied, other=value, one=unit(4))

    def test_by_name(self):
        self.same(multiplied(other=[[0, 1], [1, 0]], one=RIGHT), ((2, 1), (4, 3)))


class SingleTableTest(Case):

    def test_determinant(self):
        source = Source(23)
        for table in tables(source, 9, 90):
            told = determinant_by_hand(table)
            with self.subTest(table):
                self.same(determinant(table), told)
                self.same(determinant(listed(table)), told)
                self.assertEqual(told == 0, rank_by_hand(table, len(table)) < len(table))
        self.same(determinant(table=RIGHT), -2)

    def test_determinant_of_thirty_digits(self):
        source = Source(24)
        for many in (2, 3, 4):
            table = [source.row(many, 10 ** 30) for _ in range(many)]
            self.same(determinant(table), determinant_by_hand(table))

    def test_plain_table(self):
        source = Source(25)
        for table in tables(source):
            row = [number for mine in table for number in mine]
            many = len(table)
            with self.subTest(table):
                if any(row):
                    flat = plain_by_hand(row)
                    told = tuple(flat[at * many:(at + 1) * many] for at in range(many))
                    self.same(plain_table(table), told)
                    self.same(plain_table([scaled(mine, -6) for mine in table]), told)
                    self.same(plain_table(told), told)
        for many in (2, 3, 4):
            self.assertIsNone(plain_table([[0] * many] * many))
        self.same(plain_table(table=[[0, -2], [4, 0]]), ((0, 1), (-2, 0)))

    def test_undone(self):
        source = Source(26)
        for table in tables(source, 5, 90):
            many = len(table)
            told = undone(table)
            with self.subTest(table):
                if determinant_by_hand(table) == 0:
                    self.assertIsNone(told)
                    continue
                self.same(plain_table(multiplied(told, table)), unit(many))
                self.same(plain_table(multiplied(table, told)), unit(many))
                self.same(plain_table(told), told)
                self.same(undone(told), plain_table(table))
                row = source.nonzero(many, 7)
                self.same(led(told, led(table, row)), plain_by_hand(row))
                self.same(led(table, led(told, row)), plain_by_hand(row))

    def test_undone_of_zeros(self):
        for many in (2, 3, 4):
            self.assertIsNone(undone([[0] * many] * many))
            self.assertIsNone(undone([[1] * many] * many))
            self.same(undone(unit(many)), unit(many))
            self.same(undone([scaled(row, -7) for row in unit(many)]), unit(many))
        self.same(undone(table=[[1, 2], [3, 4]]), ((4, -2), (-3, 1)))

    def test_wrong_tables(self):
        for call in ONE_TABLE:
            for value in WRONG:
                self.refused(BadTable, "table", call, value)

    def test_what_is_passed_is_not_changed(self):
        table = [[-2, 4], [6, 8]]
        for call in ONE_TABLE:
            call(table)
        led(table, [2, 2])
        multiplied(table, table)
        self.assertEqual(table, [[-2, 4], [6, 8]])


if __name__ == "__main__":
    unittest.main()

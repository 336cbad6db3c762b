"""What several tests share: odd values, own elimination over fractions, a fixed source of numbers."""

import unittest
from collections import namedtuple
from fractions import Fraction
from itertools import permutations, product
from math import gcd

Pair = namedtuple("Pair", "one other")


class Thing:
    """An object of a class that the package does not know."""


class Loud:
    """An object that cannot be shown, compared, measured or tested."""

    def __repr__(self):
        raise RuntimeError("shown")

    __str__ = __repr__

    def __eq__(self, other):
        raise RuntimeError("compared")

    def __len__(self):
        raise RuntimeError("measured")

    def __bool__(self):
        raise RuntimeError("tested")

    __hash__ = None


# None of these is an integer, a list or a tuple.
ODD = (None, True, False, 1.0, 2.5, 1j, Fraction(3), "", "1", "1,2,3", "one", b"", b"123", {}, {0: 1, 1: 2},
       {1, 2, 3}, frozenset([1]), range(3), Thing(), Thing, Loud(), len, iter([1, 2, 3]))

# None of these is an integer within bounds that are small.
ODD_INTEGERS = ODD + ([], (), [1], (1,), (1, 1), [[1]], 10 ** 30, -(10 ** 30))


class Case(unittest.TestCase):
    """Tests that ask for errors of just one class, with just these fields."""

    def refused(self, error, part, call, *args, **named):
        """The call raises an error of just this class, with this part."""
        with self.assertRaises(error) as caught:
            call(*args, **named)
        self.assertIs(type(caught.exception), error)
        self.assertEqual(caught.exception.part, part)

    def same(self, value, expected):
        """The value equals the one that is expected, and so do all classes in it."""
        self.assertEqual(value, expected)
        self.assertEqual(kinds(value), kinds(expected))


def kinds(value):
    """The classes of a value and of all in it."""
    if type(value) in (list, tuple):
        return type(value), [kinds(part) for part in value]
    return type(value)


def listed(value):
    """The value with lists in the place of tuples, all the way in."""
    if isinstance(value, (list, tuple)):
        return [listed(part) for part in value]
    return value


class Source:
    """Numbers that look drawn by chance, but are the same each time."""

    def __init__(self, seed):
        self.state = seed

    def below(self, end):
        """The next integer from 0 to end - 1."""
        told = 0
        for _ in range(1 + end.bit_length() // 24):
            self.state = (self.state * 6364136223846793005 + 1442695040888963407) % 2 ** 64
            told = told * 2 ** 32 + self.state // 2 ** 32
        return told % end

    def within(self, least, most):
        """The next integer from least to most."""
        return least + self.below(most - least + 1)

    def row(self, many, most):
        """The next row of so many integers from -most to most."""
        return tuple(self.within(-most, most) for _ in range(many))

    def nonzero(self, many, most):
        """The next such row that is not all 0."""
        row = self.row(many, most)
        return row if any(row) else self.nonzero(many, most)


def plain_by_hand(row):
    """The plain row of a row, worked out over fractions."""
    first = [number for number in row if number][0]
    parts = [Fraction(number, first) for number in row]
    under = 1
    for part in parts:
        under = under * part.denominator // gcd(under, part.denominator)
    whole = [int(part * under) for part in parts]
    shared = gcd(*whole)
    return tuple(number // shared for number in whole)


def reduced_by_hand(rows, wide):
    """The reduced basis of the rows, worked out over fractions."""
    rows = [[Fraction(number) for number in row] for row in rows]
    done = []
    for column in range(wide):
        with_it = [row for row in rows if row[column]]
        if not with_it:
            continue
        lead = [number / with_it[0][column] for number in with_it[0]]
        rows.remove(with_it[0])
        rows = [[a - row[column] * b for a, b in zip(row, lead)] for row in rows]
        done = [[a - row[column] * b for a, b in zip(row, lead)] for row in done] + [lead]
    return tuple(plain_by_hand([part * big(row) for part in row]) for row in done)


def big(row):
    """A number that makes all fractions of a row whole."""
    told = 1
    for part in row:
        told *= part.denominator
    return told


def dotted(one, other):
    """The sum of the products, place by place."""
    return sum(a * b for a, b in zip(one, other))


def is_reduced(rows, wide):
    """Whether rows are just as a reduced basis is returned."""
    if type(rows) is not tuple or any(type(row) is not tuple or len(row) != wide for row in rows):
        return False
    leads = []
    for row in rows:
        places = [place for place, number in enumerate(row) if number]
        if not places or gcd(*row) != 1 or row[places[0]] < 0:
            return False
        leads.append(places[0])
    ascending = leads == sorted(set(leads))
    return ascending and all(row[lead] == 0 for at, row in enumerate(rows)
                             for other, lead in enumerate(leads) if at != other)


def determinant_by_hand(table):
    """The determinant, as the sum over all orders of the columns."""
    total = 0
    for order in permutations(range(len(table))):
        swaps = sum(order[a] > order[b] for a in range(len(order)) for b in range(a + 1, len(order)))
        term = -1 if swaps % 2 else 1
        for at, place in enumerate(order):
            term *= table[at][place]
        total += term
    return total


def rank_by_hand(rows, wide):
    """The rank of the rows, worked out over fractions."""
    return len(reduced_by_hand(rows, wide))


def monomials_by_hand(letters, degree):
    """The monomials in their order, sought among all rows of powers."""
    told = [powers for powers in product(range(degree + 1), repeat=letters) if sum(powers) == degree]
    return sorted(told, reverse=True)


def value_by_hand(form, letters, degree, row):
    """The value of a form at a row, term by term."""
    total = 0
    for number, powers in zip(form, monomials_by_hand(letters, degree)):
        for letter, power in zip(row, powers):
            number *= letter ** power
        total += number
    return total


def scaled(row, number):
    """The row, each integer times the number."""
    return [number * part for part in row]


def sum_of(scales, rows):
    """The sum of the rows, each times its integer."""
    return tuple(dotted(scales, column) for column in zip(*rows))


def wrong_rows(many, zeros=True):
    """Values of all kinds that are no row of so many integers; with zeros, also what is all 0."""
    right = [1, 2, 3, 4, 5][:many]
    told = [*ODD, 0, 7, [], (), right + [1], right[1:], [right], [right, right]]
    told += [right[1:] + [value] for value in ODD + ([], (1,))]
    return told + [[0] * many, (0,) * many] if zeros else told

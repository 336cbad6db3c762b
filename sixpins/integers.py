"""Rows of integers: plain rows and sums of products, without any checks."""

from math import gcd


def leading_place(row):
    """The place of the first integer that is not 0; None for zeros alone."""
    for place, number in enumerate(row):
        if number != 0:
            return place
    return None


def plain(row):
    """The plain row of a row that is not all 0."""
    shared = 0
    for number in row:
        shared = gcd(shared, number)
    if row[leading_place(row)] < 0:
        shared = -shared
    return tuple([number // shared for number in row])


def plain_or_none(row):
    """The plain row of a row; None for zeros alone."""
    if leading_place(row) is None:
        return None
    return plain(row)


def dot(one, other):
    """The sum of the products, place by place."""
    return sum([first * second for first, second in zip(one, other)])


def mixed(scales, rows):
    """The sum of the rows, each times its integer of scales."""
    return tuple([dot(scales, column) for column in zip(*rows)])


def crossing(one, other):
    """The row of three that is orthogonal to two rows of three, just as it comes."""
    return (one[1] * other[2] - one[2] * other[1],
            one[2] * other[0] - one[0] * other[2],
            one[0] * other[1] - one[1] * other[0])


def ascending_choices(least, end, many):
    """All ascending tuples of so many integers from least to end - 1, ascending."""
    if many == 0:
        return [()]
    return [(number,) + rest for number in range(least, end)
            for rest in ascending_choices(number + 1, end, many - 1)]

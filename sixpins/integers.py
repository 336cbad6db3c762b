"""Rows of integers: plain rows and sums of products, without any checks."""

from math import gcd, lcm


def leading_place(row):
    """The place of the first integer that is not 0; None for zeros alone."""
    for place, number in enumerate(row):
        if number != 0:
            return place
    return None


def plain(row):
    """The plain row of a row that is not all 0."""
    shared = 0
    for number in row:
        shared = gcd(shared, number)
        if shared == 1:
            break
    if row[leading_place(row)] < 0:
        shared = -shared
    return tuple(row) if shared == 1 else tuple([number // shared for number in row])


def plain_or_none(row):
    """The plain row of a row; None for zeros alone."""
    if leading_place(row) is None:
        return None
    return plain(row)


def plain_together(rows):
    """The rows, divided by one number, so that the row of all their integers is plain; not all are 0."""
    wide = len(rows[0])
    row = plain([number for mine in rows for number in mine])
    return tuple([row[at * wide:(at + 1) * wide] for at in range(len(rows))])


def evened(rows, values):
    """The rows, each divided by its value, which is not 0, and then all of them made plain together."""
    common = 1
    for value in values:
        common = lcm(common, value)
    return plain_together([[number * (common // value) for number in row] for row, value in zip(rows, values)])


def dot(one, other):
    """The sum of the products, place by place."""
    return sum([first * second for first, second in zip(one, other)])


def mixed(scales, rows):
    """The sum of the rows, each times its integer of scales."""
    return tuple([dot(scales, column) for column in zip(*rows)])


def crossing(one, other):
    """The row of three that is orthogonal to two rows of three, just as it comes."""
    return (one[1] * other[2] - one[2] * other[1],
            one[2] * other[0] - one[0] * other[2],
            one[0] * other[1] - one[1] * other[0])

"""Elimination over the integers, without any checks."""

from math import gcd, lcm

from sixpins.integers import leading_place, plain


def first_with(rows, least, column):
    """The number of the first row from least on that is not 0 in the column; None if there is none."""
    for place in range(least, len(rows)):
        if rows[place][column] != 0:
            return place
    return None


def cleared(row, first, column):
    """The sum of multiples of a row and of first, least in size, that is 0 in the column."""
    shared = gcd(row[column], first[column])
    scale = first[column] // shared
    less = row[column] // shared
    return [scale * mine - less * its for mine, its in zip(row, first)]


def all_cleared(rows, top, column):
    """The rows, plain, with 0 in the column everywhere but in row top, and no zeros alone."""
    told = []
    for place, row in enumerate(rows):
        if place == top or row[column] == 0:
            told.append(row)
        else:
            left = cleared(row, rows[top], column)
            if leading_place(left) is not None:
                # Common divisors are taken out at each step: they grow fast,
                # most of all with rows that come of an earlier elimination.
                told.append(plain(left))
    return told


def stepped(rows, wide):
    """The reduced basis of the space that the rows span, and its leading places."""
    left = [plain(row) for row in rows if leading_place(row) is not None]
    leads = []
    for column in range(wide):
        top = len(leads)
        found = first_with(left, top, column)
        if found is not None:
            left[top], left[found] = left[found], left[top]
            left = list(all_cleared(left, top, column))
            leads.append(column)
    return tuple(left), leads


def basis_of(rows, wide):
    """The reduced basis of the space that the rows span."""
    return stepped(rows, wide)[0]


def kernel_of(rows, wide):
    """The reduced basis of the kernel of the rows."""
    # Elimination from the right: then each row of the kernel has its free
    # place as its leading place, and no further step is needed.
    steps, leads = stepped([row[::-1] for row in rows], wide)
    told = []
    for free in range(wide - 1, -1, -1):
        if free not in leads:
            told.append(kernel_row(steps, leads, free, wide))
    return tuple(told)


def kernel_row(steps, leads, free, wide):
    """The row of the kernel, told from the right, that is 0 at all free places but this one."""
    common = 1
    for step, lead in zip(steps, leads):
        common = lcm(common, step[lead] // gcd(step[lead], step[free]))
    row = [0] * wide
    row[free] = common
    for step, lead in zip(steps, leads):
        row[lead] = -step[free] * common // step[lead]
    return plain(row[::-1])


def rank_of(rows, wide):
    """The rank of the space that the rows span."""
    return len(stepped(rows, wide)[1])

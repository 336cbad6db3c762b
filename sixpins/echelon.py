"""Elimination over the integers, without any checks."""

from math import gcd

from sixpins.integers import dot, leading_place, plain, plain_or_none


def sparsest_with(rows, column):
    """The place of a row that is not 0 in the column, with as many zeros as can be; None if there is none."""
    found, most = None, -1
    for place, row in enumerate(rows):
        if row[column] != 0:
            zeros = row.count(0)
            if zeros > most:
                found, most = place, zeros
    return found


def cleared(row, first, column):
    """The sum of multiples of a row and of first, least in size, that is 0 in the column; None for zeros alone."""
    shared = gcd(row[column], first[column])
    scale = first[column] // shared
    less = row[column] // shared
    # Common divisors are taken out at each step: they grow fast, most of all
    # with rows that come of an earlier elimination.
    return plain_or_none([scale * mine - less * its for mine, its in zip(row, first)])


def all_cleared(rows, top, column):
    """The rows but the one at place top, plain, with 0 in the column, and no zeros alone."""
    told = []
    for place, row in enumerate(rows):
        if place != top:
            left = row if row[column] == 0 else cleared(row, rows[top], column)
            if left is not None:
                told.append(left)
    return told


def stepped(rows, wide):
    """Rows that span the same space, with ascending leading places, and these places."""
    left = [plain(row) for row in rows if leading_place(row) is not None]
    steps, leads = [], []
    for column in range(wide):
        top = sparsest_with(left, column)
        if top is not None:
            steps.append(left[top])
            leads.append(column)
            left = all_cleared(left, top, column)
    return steps, leads


def basis_of(rows, wide):
    """The reduced basis of the space that the rows span."""
    steps, leads = stepped(rows, wide)
    for last in range(len(steps) - 1, 0, -1):
        for place in range(last):
            if steps[place][leads[last]] != 0:
                steps[place] = cleared(steps[place], steps[last], leads[last])
    return tuple(steps)


def pair_basis(one, other):
    """The reduced basis of two rows that are independent."""
    lead = 0
    while one[lead] == 0 and other[lead] == 0:
        lead = lead + 1
    below = plain([one[lead] * its - other[lead] * mine for mine, its in zip(one, other)])
    further = leading_place(below)
    above = one if one[lead] != 0 else other
    if above[further] != 0:
        above = [below[further] * mine - above[further] * its for mine, its in zip(above, below)]
    return plain(above), below


def kernel_of(rows, wide):
    """The reduced basis of the kernel of the rows."""
    # Elimination from the right: then each row of the kernel has its free
    # place as its leading place, and no further step is needed.
    steps, leads = stepped([row[::-1] for row in rows], wide)
    return tuple([kernel_row(steps, leads, free, wide) for free in range(wide - 1, -1, -1) if free not in leads])


def kernel_row(steps, leads, free, wide):
    """The row of the kernel, told from the right, that is 0 at all free places but this one."""
    row = [0] * wide
    row[free] = 1
    for step, lead in zip(steps[::-1], leads[::-1]):
        value = dot(step, row)
        if value != 0:
            shared = gcd(step[lead], value)
            scale = step[lead] // shared
            row = [scale * number for number in row]
            row[lead] = -value // shared
    return plain(row[::-1])


def rank_of(rows, wide):
    """The rank of the space that the rows span."""
    return len(stepped(rows, wide)[1])

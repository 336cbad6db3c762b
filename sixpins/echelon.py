"""Elimination over the integers, without any checks."""

from sixpins.integers import leading_place, plain


def first_with(rows, least, column):
    """The number of the first row from least on that is not 0 in the column; None if there is none."""
    for place in range(least, len(rows)):
        if rows[place][column] != 0:
            return place
    return None


def cleared(rows, top, column, last):
    """The rows with 0 in the column everywhere but in row top."""
    # Every integer here is a determinant of some of the first integers,
    # so the division by the last leading integer comes out even.
    first = rows[top]
    scale = first[column]
    told = []
    for place, row in enumerate(rows):
        if place == top:
            told.append(row)
        else:
            told.append([(scale * mine - row[column] * its) // last for mine, its in zip(row, first)])
    return told


def stepped(rows, wide):
    """Rows that span what the rows span, as few as can be, and their leading places.

    The places ascend, each row has 0 at the leading places of the others,
    and all have the same integer at their own leading place.
    """
    left = [list(plain(row)) for row in rows if leading_place(row) is not None]
    leads = []
    last = 1
    for column in range(wide):
        top = len(leads)
        found = first_with(left, top, column)
        if found is not None:
            left[top], left[found] = left[found], left[top]
            left = list(cleared(left, top, column, last))
            last = left[top][column]
            leads.append(column)
    return left[:len(leads)], leads


def basis_of(rows, wide):
    """The reduced basis of the space that the rows span."""
    steps, _ = stepped(rows, wide)
    return tuple([plain(row) for row in steps])


def kernel_of(rows, wide):
    """The reduced basis of the kernel of the rows."""
    # Elimination from the right: then each row of the kernel has its free
    # place as its leading place, and no further step is needed.
    steps, leads = stepped([row[::-1] for row in rows], wide)
    told = []
    for free in range(wide - 1, -1, -1):
        if free not in leads:
            told.append(kernel_row(steps, leads, free, wide))
    return tuple(told)


def kernel_row(steps, leads, free, wide):
    """The row of the kernel, told from the right, that is 0 at all free places but this one."""
    row = [0] * wide
    row[free] = steps[0][leads[0]] if leads else 1
    for step, lead in zip(steps, leads):
        row[lead] = -step[free]
    return plain(row[::-1])


def rank_of(rows, wide):
    """The rank of the space that the rows span."""
    return len(stepped(rows, wide)[1])

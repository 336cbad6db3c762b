"""Rows modulo a prime, without any checks."""

from sixpins.integers import leading_place, mixed


def reduced_by(row, prime):
    """The row of what is left of each integer, from 0 to the prime less 1."""
    return tuple([number % prime for number in row])


def inverse_by(number, prime):
    """The integer from 1 to the prime less 1 that, times this one, leaves 1; the prime does not divide this one."""
    return [other for other in range(1, prime) if number * other % prime == 1][0]


def rest_or_none(row, prime):
    """The rest row of a row; None if the prime divides all of its integers."""
    left = reduced_by(row, prime)
    lead = leading_place(left)
    if lead is None:
        return None
    scale = inverse_by(left[lead], prime)
    return reduced_by([scale * number for number in left], prime)


def all_rows(prime, many):
    """The ascending list of the rows of so many integers from 0 to the prime less 1."""
    told = [()]
    for _ in range(many):
        told = [row + (number,) for row in told for number in range(prime)]
    return told


def all_places(prime, many):
    """The ascending list of the rest rows of so many integers."""
    told = []
    for lead in range(many - 1, -1, -1):
        told.extend([(0,) * lead + (1,) + row for row in all_rows(prime, many - 1 - lead)])
    return told


def pair_of_rests(one, other, prime):
    """The line modulo the prime of two rows; None if a sum of both, not of multiples of the prime, leaves zeros."""
    first = rest_or_none(one, prime)
    lead = leading_place(first)
    second = rest_or_none(mixed((1, -other[lead]), (other, first)), prime)
    if second is None:
        return None
    left = reduced_by(mixed((1, -first[leading_place(second)]), (first, second)), prime)
    # The row whose first integer that is not 0 comes first is the greater one.
    return max(left, second), min(left, second)


def dependence_by(rows, prime):
    """A rest row by which the rows add up to zeros modulo the prime; None if they are independent."""
    # Each row is kept with how often each of the rows is in it.
    steps = []
    for at, row in enumerate(rows):
        share = tuple([1 if place == at else 0 for place in range(len(rows))])
        for lead, step, its in steps:
            scales = (1, -row[lead])
            row, share = reduced_by(mixed(scales, (row, step)), prime), mixed(scales, (share, its))
        lead = leading_place(reduced_by(row, prime))
        if lead is None:
            return rest_or_none(share, prime)
        scale = inverse_by(row[lead] % prime, prime)
        steps.append((lead, [scale * number for number in row], [scale * number for number in share]))
    return None

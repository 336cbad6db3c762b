"""Spaces of rows: reduced bases, kernels, ranks."""

from sixpins.echelon import basis_of, kernel_of, rank_of
from sixpins.given import given_integer, given_integer_rows

MOST_ROWS = 40
MOST_WIDE = 30


def given_space(rows, wide):
    """The rows that are passed, as tuples."""
    given_integer(wide, 1, MOST_WIDE, "wide")
    return given_integer_rows(rows, 0, MOST_ROWS, wide, "rows")


def reduced(rows, wide):
    """The reduced basis of the space that the rows span."""
    return basis_of(given_space(rows, wide), wide)


def kernel(rows, wide):
    """The reduced basis of the kernel of the rows."""
    return kernel_of(given_space(rows, wide), wide)


def rank(rows, wide):
    """The rank of the space that the rows span."""
    return rank_of(given_space(rows, wide), wide)

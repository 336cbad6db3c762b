"""The plane: spots, its lines, and forms of second degree."""

from sixpins.echelon import kernel_of, rank_of
from sixpins.errors import Misfit
from sixpins.given import given_row, given_rows
from sixpins.integers import crossing, plain
from sixpins.powers import monomial_values

MOST_SPOTS = 6


def joined(one, other):
    """The line of the plane that has two unlike spots."""
    return crossed_rows(one, other)


def crossed(one, other):
    """The spot that two unlike lines of the plane have in common."""
    return crossed_rows(one, other)


def crossed_rows(one, other):
    """The plain row that is orthogonal to two unlike ones of three integers."""
    first = given_row(one, 3, "one")
    second = given_row(other, 3, "other")
    if first == second:
        raise Misfit("other")
    return plain(crossing(first, second))


def in_line(spots):
    """Whether two to six spots are in a line."""
    return rank_of(given_rows(spots, 2, MOST_SPOTS, 3, "spots"), 3) <= 2


def seconds(spots):
    """The reduced basis of the forms of second degree that are 0 at one to six spots."""
    return seconds_at(given_rows(spots, 1, MOST_SPOTS, 3, "spots"))


def seconds_at(spots):
    """The reduced basis of the forms of second degree that are 0 at these plain rows."""
    return kernel_of([monomial_values(spot, 2) for spot in spots], 6)

"""The plane: spots, its lines, and forms of second degree."""

from sixpins.echelon import kernel_of, rank_of
from sixpins.errors import Misfit
from sixpins.given import given_row, given_rows
from sixpins.integers import crossing, mixed, plain
from sixpins.written import plane_dot, plane_product, plane_squares

MOST_SPOTS = 6


def joined(one, other):
    """The line of the plane that has two unlike spots."""
    return crossed_rows(one, other)


def crossed(one, other):
    """The spot that two unlike lines of the plane have in common."""
    return crossed_rows(one, other)


def crossed_rows(one, other):
    """The plain row that is orthogonal to two unlike ones of three integers."""
    first = given_row(one, 3, "one")
    second = given_row(other, 3, "other")
    if first == second:
        raise Misfit("other")
    return plain(crossing(first, second))


def in_line(spots):
    """Whether two to six spots are in a line."""
    return rank_of(given_rows(spots, 2, MOST_SPOTS, 3, "spots"), 3) <= 2


def seconds(spots):
    """The reduced basis of the forms of second degree that are 0 at one to six spots."""
    return seconds_at(given_rows(spots, 1, MOST_SPOTS, 3, "spots"))


def seconds_at(spots):
    """The reduced basis of the forms of second degree that are 0 at these plain rows."""
    return kernel_of([plane_squares(spot) for spot in spots], 6)


def bracket(one, other, third):
    """The determinant of three rows of three."""
    return plane_dot(crossing(one, other), third)


def curve_through(spots):
    """The form of second degree that is 0 at five unlike spots, no four of them in a line, as a plain row."""
    first, one, other, third, last = spots
    # Two pairs of lines have the first four spots; both forms together are 0 at the last one, too.
    sides = [(crossing(first, one), crossing(other, third)), (crossing(first, other), crossing(one, third))]
    values = [plane_dot(side, last) * plane_dot(further, last) for side, further in sides]
    return plain(mixed((values[1], -values[0]), [plane_product(side, further) for side, further in sides]))


def spot_touching(spots):
    """A spot that is in a line with the first one of five that touches their curve of second degree there.

    It is in a line with the next two, too. No three of the five are in a line.
    """
    first, one, other, third, last = spots
    # As in curve_through: at the first spot the slopes of both forms are numbers times its lines with these two.
    times = bracket(other, third, first) * bracket(first, other, last) * bracket(one, third, last)
    less = bracket(one, third, first) * bracket(first, one, last) * bracket(other, third, last)
    return mixed((times, -less), (one, other))

"""Space: places, planes, and the lines between them."""

from sixpins.checks import is_list, is_plain
from sixpins.echelon import kernel_of, pair_basis
from sixpins.errors import Misfit
from sixpins.given import given_line, given_row
from sixpins.integers import dot, leading_place, mixed, plain, plain_or_none
from sixpins.written import space_crossing, space_dot


def line_through(one, other):
    """The line of two unlike places."""
    first, second = unlike_rows(one, other)
    return pair_basis(first, second)


def line_of_planes(one, other):
    """The line that two unlike planes have in common."""
    return kernel_of(unlike_rows(one, other), 4)


def unlike_rows(one, other):
    """The plain rows of two unlike places or planes."""
    first = given_row(one, 4, "one")
    second = given_row(other, 4, "other")
    if first == second:
        raise Misfit("other")
    return first, second


def is_line(value):
    """Whether any value is a line just as it is returned."""
    if not is_list(value, 2, 2) or not all([is_plain(row, 4) for row in value]):
        return False
    one, other = value
    first, second = leading_place(one), leading_place(other)
    return first < second and one[second] == 0


def on_line(line, place):
    """Whether the line has the place."""
    return is_on(given_line(line, "line"), given_row(place, 4, "place"))


def is_on(line, place):
    """Whether a reduced line has a place, told by its plain row."""
    one, other = line
    first, second = leading_place(one), leading_place(other)
    # Up to this number the place can only be the sum of both rows that is as it at both leading places.
    number = one[first] * other[second]
    mine, its = place[first] * other[second], place[second] * one[first]
    return all([mine * above + its * below == number * part for above, below, part in zip(one, other, place)])


def shares_on(line, place):
    """How often each row of a reduced line is taken, up to one number for both, if the place is on the line."""
    one, other = line
    first, second = leading_place(one), leading_place(other)
    # At the leading place of each row the other one has 0.
    return place[first] * other[second], place[second] * one[first]


def on_plane(plane, place):
    """Whether the plane has the place."""
    return dot(given_row(plane, 4, "plane"), given_row(place, 4, "place")) == 0


def in_plane(line, plane):
    """Whether the plane has all places of the line."""
    told = given_line(line, "line")
    return within_plane(told, given_row(plane, 4, "plane"))


def within_plane(line, plane):
    """Whether a plane, told by its plain row, has all places of a reduced line."""
    return space_dot(plane, line[0]) == 0 and space_dot(plane, line[1]) == 0


def meet(one, other):
    """The place that two unlike lines have in common; None if they are skew."""
    first, second = unlike_lines(one, other)
    return common_place(first, second)


def common_place(one, other):
    """The place that two unlike lines, reduced, have in common; None if they are skew."""
    # The planes of both lines together: a place on both lines is on all of them.
    common = kernel_of(kernel_of(one, 4) + kernel_of(other, 4), 4)
    return common[0] if common else None


def plane_of(one, other):
    """The plane of two unlike lines that meet."""
    first, second = unlike_lines(one, other)
    planes = kernel_of(first + second, 4)
    if not planes:
        raise Misfit("other")
    return planes[0]


def plane_of_lines(lines):
    """The plane of some lines that lie in one plane, reduced and not all alike."""
    first = lines[0]
    further = [line for line in lines if line != first][0]
    row = space_crossing(first[0], first[1], further[0])
    if leading_place(row) is None:
        # The first place of the further line is on the first one; then the second place is not.
        row = space_crossing(first[0], first[1], further[1])
    return plain(row)


def unlike_lines(one, other):
    """Two unlike lines, reduced."""
    first = given_line(one, "one")
    second = given_line(other, "other")
    if first == second:
        raise Misfit("other")
    return first, second


def plane_through(line, place):
    """The plane of a line and a place that is not on it."""
    told = given_line(line, "line")
    planes = kernel_of(told + (given_row(place, 4, "place"),), 4)
    if len(planes) != 1:
        raise Misfit("place")
    return planes[0]


def pierced(line, plane):
    """The place that a line and a plane have in common; None if the line lies in the plane."""
    one, other = given_line(line, "line")
    told = given_row(plane, 4, "plane")
    return plain_or_none(mixed((dot(told, other), -dot(told, one)), (one, other)))


def plane_basis(plane):
    """The reduced basis of the places of a plane."""
    return kernel_of([given_row(plane, 4, "plane")], 4)

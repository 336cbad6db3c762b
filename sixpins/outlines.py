"""Outlines: what is seen of a surface's rim from one of its places."""

from math import isqrt

from sixpins.echelon import kernel_of
from sixpins.errors import Misfit
from sixpins.falls import standing_numbers
from sixpins.given import given_cubic, given_row
from sixpins.integers import dot, leading_place, mixed, plain
from sixpins.papers import Paper
from sixpins.peaks import touching_at
from sixpins.powers import form_on, product_form
from sixpins.roster import NAMES
from sixpins.space import is_on
from sixpins.surface import given_surface, is_zero_at
from sixpins.written import (pair_product, plane_between, plane_dot, plane_slopes, plane_squares, space_crossing)

# What stands behind the names, for the touch of the touching plane.
PLANE = "plane"


class Outline(Paper):
    """The letters kept, the outline form of a surface at a place, and its touches."""

    def __init__(self, kept, form, touches):
        Paper.__init__(self, "outline", kept, form, touches)
        self.kept = self.parts[0]
        self.form = self.parts[1]
        self.touches = self.parts[2]


def outline_form(form, place):
    """The outline form of a form of third degree in space at a place at which it is 0."""
    told = given_cubic(form, "form")
    row = given_row(place, 4, "place")
    if not is_zero_at(told, row):
        raise Misfit("place")
    return outline_by(parts_at(told, row))


def seen_from(place, other):
    """The direction in which another place is seen from a place."""
    first = given_row(place, 4, "place")
    second = given_row(other, 4, "other")
    if first == second:
        raise Misfit("other")
    lead = leading_place(first)
    return plain(kept_of(mixed((first[lead], -second[lead]), (second, first)), first))


def outline_of(surface, place):
    """The Outline of a surface from one of its places that is no peak."""
    told = given_surface(surface)
    row = given_row(place, 4, "place")
    plane = touching_at(told.form, row)
    if plane is None:
        raise Misfit("place")
    parts = parts_at(told.form, row)
    planes = [(NAMES[number], plane_of_rows(row, told.lines[number]))
              for number in standing_numbers(told.pins.bars) if not is_on(told.lines[number], row)]
    slopes = plane_slopes(parts[2])
    touches = [touch_of(parts, slopes, name, plain(kept_of(its, row))) for name, its in planes + [(PLANE, plane)]]
    return Outline(kept_places(row), outline_by(parts), touches)


def plane_of_rows(place, line):
    """The row of the plane of a place and a line, just as it comes."""
    return space_crossing(place, line[0], line[1])


def parts_at(form, place):
    """The parts of first, second and third degree of a form at a plain row, in the letters kept."""
    units = [tuple([1 if at == kept else 0 for at in range(4)]) for kept in kept_places(place)]
    # In the letters s and those kept: s s times the first part, s times the second, and the third.
    told = form_on(form, 4, 3, [place] + units)
    return told[1:4], told[4:10], told[10:20]


def outline_by(parts):
    """The outline form that is made of these parts."""
    first, second, third = parts
    return mixed((1, -4), (product_form(second, second, 3, 2, 2), product_form(first, third, 3, 1, 3)))


def kept_places(place):
    """The places of a row of four but the leading place of a place."""
    lead = leading_place(place)
    return tuple([at for at in range(4) if at != lead])


def kept_of(row, place):
    """The integers of a row at the places that are kept."""
    return tuple([row[at] for at in kept_places(place)])


def touch_of(parts, slopes, name, row):
    """The touch with this row, and its root; the slopes are those of the third part."""
    one, other = kernel_of([row], 3)
    # On both rows, in their letters s and t: the outline form is made of its parts as ever.
    first = [plane_dot(parts[0], one), plane_dot(parts[0], other)]
    squares, between, last = plane_squares(one), plane_between(one, other), plane_squares(other)
    second = [dot(parts[1], values) for values in (squares, between, last)]
    ahead, behind = [[dot(slope, values) for slope in slopes] for values in (squares, last)]
    third = [plane_dot(ahead, one) // 3, plane_dot(ahead, other), plane_dot(behind, one), plane_dot(behind, other) // 3]
    return name, row, root_of([number - 4 * its for number, its in zip(pair_product(second, second),
                                                                       pair_product(first, third))])


def root_of(form):
    """The form of second degree in two letters of which this one is the product with itself."""
    # Told from the first of its integers that is not 0; it stands in the middle of its square's.
    if form[0] != 0:
        first = isqrt(form[0])
        second = form[1] // (2 * first)
        return first, second, (form[2] - second * second) // (2 * first)
    if form[2] != 0:
        second = isqrt(form[2])
        return 0, second, form[3] // (2 * second)
    return 0, 0, isqrt(form[4])

"""The lines of the 27 names on a surface, without any checks."""

from sixpins.classes import pins_with
from sixpins.echelon import pair_basis
from sixpins.falls import all_fallen
from sixpins.integers import crossing, leading_place
from sixpins.plane import spot_touching
from sixpins.roster import CLASSES, MANY_IN_SIX
from sixpins.written import plane_dot, plane_second_dot, plane_slopes, plane_squares


def slopes_at_pins(pins, curves):
    """For each pin and each of the four curves its slopes there: a table of four rows of three for each pin."""
    slopes = [plane_slopes(curve) for curve in curves]
    squares = [plane_squares(spot) for spot in pins.spots]
    return tuple([tuple([slopes_by(its, values) for its in slopes]) for values in squares])


def slopes_by(slopes, squares):
    """The slopes of a curve at a spot, by its forms and the values of the monomials of second degree there."""
    return tuple([plane_second_dot(slope, squares) for slope in slopes])


def row_towards(slopes, pin, spot):
    """The row of the place to which a pin is led with the line through another spot, just as it comes."""
    return tuple([plane_dot(its, spot) for its in slopes[pin]])


def row_along(pins, slopes, pin, line):
    """The row of the place to which a pin is led with a line of the plane through it, just as it comes."""
    # This spot of the line is not the pin: it is orthogonal to the pin.
    return row_towards(slopes, pin, crossing(line, pins.spots[pin]))


def lines_of_names(pins, slopes):
    """The tuple of the lines of all names, in their order, standing or not."""
    onto = all_fallen(pins.bars)
    standing = {number: standing_line(pins, slopes, number) for number in sorted(set(onto))}
    return tuple([standing[number] for number in onto])


def standing_line(pins, slopes, number):
    """The line of the standing name of this number."""
    if number < MANY_IN_SIX:
        return line_at_pin(pins, slopes, number)
    # The spots of the join, or of the curve, are led to the places of one line,
    # and so are two of its pins with the join, or with the lines that touch
    # the curve. These two places are unlike: a place of two pins is the peak of
    # a bar with both, and a name that stands meets no such bar once.
    through = pins_with(CLASSES[number])
    one, other = through[0], through[1]
    return pair_basis(row_towards(slopes, one, spot_beside(pins, one, through)),
                      row_towards(slopes, other, spot_beside(pins, other, through)))


def line_at_pin(pins, slopes, pin):
    """The line of the places to which a pin is led with all lines of the plane through it."""
    # A row makes a form without slopes at the pin if it is orthogonal to these three rows;
    # each times the pin's integer for its letter, they add up to zeros.
    its = slopes[pin]
    rows = list(zip(*its))
    lead = leading_place(pins.spots[pin])
    return pair_basis(rows[lead - 1], rows[lead - 2])


def spot_beside(pins, pin, through):
    """Another spot on the join of two pins with this one, or on the line that touches the curve of five at it."""
    others = [pins.spots[number] for number in through if number != pin]
    return others[0] if len(others) == 1 else spot_touching([pins.spots[pin]] + others)

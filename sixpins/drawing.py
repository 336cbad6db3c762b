"""The lines of the 27 names on a surface, without any checks."""

from sixpins.classes import pins_with
from sixpins.echelon import basis_of
from sixpins.falls import all_fallen
from sixpins.integers import crossing
from sixpins.plane import seconds_at
from sixpins.powers import monomial_slopes, slopes_at
from sixpins.roster import CLASSES
from sixpins.tables import image_of


def slopes_at_pins(pins, curves):
    """For each pin and each of the four curves its slopes there: a table of four rows of three for each pin."""
    return tuple([slopes_of_all(curves, monomial_slopes(spot, 3)) for spot in pins.spots])


def slopes_of_all(curves, slopes):
    """The slopes of the curves, by those of all monomials."""
    return tuple([image_of(slopes, curve) for curve in curves])


def row_along(pins, slopes, pin, line):
    """The row of the place to which a pin is led with a line of the plane through it, just as it comes."""
    # This spot of the line is not the pin: it is orthogonal to the pin.
    return image_of(slopes[pin], crossing(line, pins.spots[pin]))


def lines_of_names(pins, slopes):
    """The tuple of the lines of all names, in their order, standing or not."""
    onto = all_fallen(pins.bars)
    standing = {number: standing_line(pins, slopes, CLASSES[number]) for number in sorted(set(onto))}
    return tuple([standing[number] for number in onto])


def standing_line(pins, slopes, row):
    """The line of the standing name with this curve class."""
    if row[0] == 0:
        # A row makes a form without slopes at the pin if it is orthogonal to these.
        its = slopes[row[1:].index(-1)]
        return basis_of(list(zip(*its)), 4)
    through = pins_with(row)
    # The spots of the join, or of the curve, are led to the places of one line,
    # and so are two of its pins with the join, or with the lines that touch
    # the curve. These two places are unlike: a place of two pins is the peak of
    # a bar with both, and a name that stands meets no such bar once.
    return basis_of([row_along(pins, slopes, pin, line_along(pins, through, pin)) for pin in through[:2]], 4)


def line_along(pins, through, pin):
    """The join of two pins, or the line that touches the curve of second degree through five of them at this one."""
    spots = [pins.spots[number] for number in through]
    if len(spots) == 2:
        return crossing(spots[0], spots[1])
    return slopes_at(seconds_at(spots)[0], 2, pins.spots[pin])

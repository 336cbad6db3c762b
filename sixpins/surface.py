"""The surface of pins: the places to which spots are led, and what places come from."""

from sixpins.checks import is_row
from sixpins.cubics import on_two_by
from sixpins.curves import curves
from sixpins.drawing import lines_of_names, row_along, slopes_at_pins
from sixpins.echelon import kernel_of
from sixpins.errors import BadSurface, Misfit
from sixpins.given import given_pin, given_row
from sixpins.integers import crossing, dot, mixed, plain, plain_or_none
from sixpins.making import form_of, matrix_of, relations_of
from sixpins.papers import Denial, Paper
from sixpins.pins import given_pins
from sixpins.tables import image_of
from sixpins.written import plane_cubes, space_slopes, space_value


class Spot(Paper):
    """A place comes from a spot that is no pin and on no bar."""

    def __init__(self, spot):
        Paper.__init__(self, "spot", spot)
        self.spot = self.parts[0]


class AtPin(Paper):
    """A place comes from a pin together with a line of the plane through it."""

    def __init__(self, pin, line):
        Paper.__init__(self, "atpin", pin, line)
        self.pin = self.parts[0]
        self.line = self.parts[1]


class Bar(Paper):
    """A place comes from a line of the plane with three pins."""

    def __init__(self, line):
        Paper.__init__(self, "bar", line)
        self.line = self.parts[0]


class Curve(Paper):
    """A place comes from a curve of second degree with all six pins."""

    def __init__(self, curve):
        Paper.__init__(self, "curve", curve)
        self.curve = self.parts[0]


class Off(Denial):
    """A place is not on the surface."""

    def __init__(self):
        Denial.__init__(self, "off")


class Surface:
    """The surface of pins."""

    def __init__(self, pins):
        self.pins = given_pins(pins, "pins")
        self.curves = curves(pins)
        self.relations = relations_of(self.curves)
        self.matrix = matrix_of(self.relations)
        self.form = form_of(self.curves, self.matrix, pins.curve)
        # Not of the interface: what each question about lines, or about slopes, begins with.
        self.form_slopes = space_slopes(self.form)
        self.slopes = slopes_at_pins(pins, self.curves)
        self.lines = lines_of_names(pins, self.slopes)

    def place_of(self, spot):
        """The place to which a spot is led; None for a pin."""
        told = given_row(spot, 3, "spot")
        powers = plane_cubes(told)
        return plain_or_none([dot(curve, powers) for curve in self.curves])

    def place_at(self, pin, line):
        """The place to which a pin is led together with a line of the plane through it."""
        spot = self.pins.spots[given_pin(pin, "pin")]
        told = given_row(line, 3, "line")
        if dot(told, spot) != 0:
            raise Misfit("line")
        return plain(row_along(self.pins, self.slopes, pin, told))

    def holds(self, place):
        """Whether the place is on the surface."""
        return is_zero_at(self.form, given_row(place, 4, "place"))

    def __contains__(self, value):
        return is_row(value, 4) and is_zero_at(self.form, value)

    def back(self, place):
        """What a place of the surface comes from; Off() for one that is not on it."""
        told = given_row(place, 4, "place")
        if not is_zero_at(self.form, told):
            return Off()
        spots = kernel_of([image_of(row, told) for row in self.matrix], 3)
        if len(spots) == 3:
            return Curve(self.pins.curve)
        if len(spots) == 2:
            return Bar(plain(crossing(spots[0], spots[1])))
        if spots[0] in self.pins.spots:
            pin = self.pins.spots.index(spots[0])
            return AtPin(pin, line_behind(self, pin, told))
        return Spot(spots[0])

    def third(self, one, other):
        """The third place on the line of two places of the surface; None if the line lies on it."""
        first = given_row(one, 4, "one")
        second = given_row(other, 4, "other")
        if not is_zero_at(self.form, first):
            raise Misfit("one")
        if not is_zero_at(self.form, second) or first == second:
            raise Misfit("other")
        numbers = on_two_by(self.form_slopes, first, second)
        return plain_or_none(mixed((numbers[2], -numbers[1]), (first, second)))

    def __eq__(self, other):
        return isinstance(other, Surface) and self.pins == other.pins


def given_surface(value):
    """A Surface that is passed as the parameter `surface`."""
    if not isinstance(value, Surface):
        raise BadSurface("surface")
    return value


def is_zero_at(form, place):
    """Whether a form of third degree in space is 0 at a place."""
    return space_value(form, place) == 0


def line_behind(surface, pin, place):
    """The line of the plane together with which a pin is led to a place."""
    # Each such row has a spot that is led to minus its last integer times the place.
    # If this is 0, the spot is the pin itself, which tells no line.
    rows = kernel_of([row + (number,) for row, number in zip(surface.slopes[pin], place)], 4)
    spot = [row[:3] for row in rows if row[3] != 0][0]
    return plain(crossing(surface.pins.spots[pin], spot))

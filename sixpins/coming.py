"""How a surface comes down to other pins by a six, without any checks.

The six is told by the numbers of its names, which all stand. Each of them
shrinks to one of the new pins.
"""

from sixpins.changes import frame_with
from sixpins.classes import THREES, line_class, pins_with
from sixpins.curves import curves
from sixpins.echelon import rank_of
from sixpins.integers import crossing, dot, evened, mixed, plain
from sixpins.pins import Pins
from sixpins.plane import curve_through
from sixpins.powers import monomial_values, product_form, value_at
from sixpins.renamings import frame_of_six, led_by
from sixpins.roster import CLASSES, number_of_class
from sixpins.tables import inverse_of, plain_table_of, product_of
from sixpins.written import plane_between, plane_squares

# A form of degree 15 that is 0 at all spots (1, y, z) with y and z below 16 is 0 throughout.
GRID = 16


def form_of_name(pins, number):
    """The form of the join, or of the curve, of a name; (1,) for a name p."""
    spots = [pins.spots[pin] for pin in pins_with(CLASSES[number])]
    if not spots:
        return (1,)
    return plain(crossing(spots[0], spots[1])) if len(spots) == 2 else curve_through(spots)


def spot_of_name(pins, number):
    """The pin of a name p, or a spot that is no pin on the join, or the curve, of another standing name."""
    row = CLASSES[number]
    if row[0] == 0:
        return pins.spots[row[1:].index(-1)]
    spots = [pins.spots[pin] for pin in pins_with(row)]
    if len(spots) == 2:
        # No third pin is in a line with both, as the name stands.
        return mixed((1, 1), spots)
    return spot_on_curve(pins, spots)


def spot_on_curve(pins, spots):
    """A spot that is no pin on the curve of second degree through five pins, no three of them in a line."""
    curve = curve_through(spots)
    first, one, other = spots[:3]
    told = []
    # The line from the first of the pins through such a spot has just one
    # further spot of the curve, another one each time: at three of four times
    # at most it is the first pin, or one of the last two.
    for times in range(1, 5):
        along = mixed((1, times), (one, other))
        both = dot(curve, plane_between(first, along))
        told.append(plain(mixed((dot(curve, plane_squares(along)), -both), (first, along))))
    return [spot for spot in told if spot not in pins.spots][0]


def coming_pins(pins, six):
    """The degree in which a six comes down, the settled pins to which it does, and the forms that lead to these."""
    frame = frame_of_six(six)
    shrinking = [spot_of_name(pins, number) for number in six]
    threes = [three for three in THREES if led_by(frame, line_class(three)) in pins.bars] if pins.bars else []
    one, other, third, last = frame_with(threes)
    sides = [side_between(pins, six, frame, two) for two in ((other, third), (one, third), (one, other))]
    degree = frame[0][0]
    forms = evened(sides, values_at(sides, degree, shrinking[last]))
    return degree, Pins([values_at(forms, degree, spot) for spot in shrinking]), forms


def side_between(pins, six, frame, two):
    """The form of the spots that are led to the join of two of the new pins."""
    # The join and the names of both pins add up to the class of a line of the plane.
    join = number_of_class(led_by(frame, line_class(two)))
    told, degree = (1,), 0
    for number in (join, six[two[0]], six[two[1]]):
        further = CLASSES[number][0]
        told = product_form(told, form_of_name(pins, number), 3, degree, further)
        degree = degree + further
    return told


def values_at(forms, degree, row):
    """The values of some forms of one degree at a row."""
    powers = monomial_values(row, degree)
    return [dot(form, powers) for form in forms]


def coming_change(surface, six, later, forms, degree):
    """The change of space that leads the surface to that of the pins to which the six comes down."""
    shrinking = [(form_of_name(surface.pins, number), CLASSES[number][0]) for number in six]
    further = curves(later)
    places, images = [], []
    for spot in [(1, right, up) for right in range(GRID) for up in range(GRID)]:
        scale = 1
        for form, its in shrinking:
            scale = scale * value_at(form, its, spot)
        place = values_at(surface.curves, 3, spot)
        if scale != 0 and rank_of(places + [place], 4) > len(places):
            # Behind the three forms, the curves of the new pins are those of
            # the surface, changed, times all that shrinks.
            image = values_at(further, 3, values_at(forms, degree, spot))
            places.append(place)
            images.append([number // scale for number in image])
        if len(places) == 4:
            break
    columns = product_of(inverse_of(places), images)
    return plain_table_of(tuple(zip(*columns)))

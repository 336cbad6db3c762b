"""Surfaces of the seven cases of pins, and values of all kinds for what takes a surface, a name or a line."""

from sixpins.forms import value_of
from sixpins.pins import Pins
from sixpins.space import in_plane
from sixpins.surface import Surface
from tests.support import ODD, Source, determinant_by_hand, dotted, scaled
from tests.test_pins import CASES, CHANGES, changed, some_orders

# It leads the spots of the seven cases to spots with integers of up to six digits.
LONG = ((9973, -8117, 6007), (4441, 7919, -3571), (-5003, 2999, 8821))

SURFACES = tuple((name, Surface(Pins(spots))) for name, spots, _, _ in CASES)
CORNERS = SURFACES[6][1]
PLAINEST = SURFACES[0][1]


def shuffled(seed):
    """Each case with a name: in a drawn order, by other rows, led by a change of one digit or to six digits."""
    source = Source(seed)
    for at, (name, spots, _, _) in enumerate(CASES):
        order = some_orders(source)[-1]
        turned = [spots[pin] for pin in order]
        yield f"{name}, in another order, by other rows", [scaled(spot, -3) for spot in turned]
        yield f"{name}, led by a change", changed(CHANGES[at % 3], turned)
        yield f"{name}, with six digits", changed(LONG, turned)


def drawn_pins(seed):
    """Pins without bars, with six digits."""
    source = Source(seed)
    return Pins([source.nonzero(3, 999_999) for _ in range(6)])


def check_cut(case, form, plane, lines):
    """In the plane the form is a number, not 0, times the product of what is 0 just on the lines."""
    case.assertTrue(all(in_plane(line, plane) for line in lines))
    source, ratio = Source(181), None
    lead = [at for at, number in enumerate(plane) if number][0]
    for _ in range(12):
        place = list(source.row(4, 7))
        place[lead] = 0
        place = [number * plane[lead] for number in place]
        place[lead] = -dotted(plane, place) // plane[lead]
        product = 1
        for line in lines:
            # It is 0 just if the place is on the line, as all three are in the plane.
            product *= determinant_by_hand([[*row[:lead], *row[lead + 1:]] for row in (*line, place)])
        value = value_of(form, 4, 3, place)
        case.assertEqual(value == 0, product == 0)
        if ratio is None and product:
            ratio = (value, product)
        if ratio is not None:
            case.assertEqual(value * ratio[1], product * ratio[0])
    case.assertIsNotNone(ratio)


# None of these is a Pins, a Surface or a Renaming.
NO_OBJECTS = ODD + (5, (), [], CASES[6][1], "p0", CORNERS.form, Pins, Surface)

NO_SURFACES = NO_OBJECTS + (CORNERS.pins,)

# None of these is a name.
NO_NAMES = ODD + (0, 26, "", "p", "p6", "j10", "j00", "j55", "j56", "c6", "c-1", "P0", " p0", "p0 ", "p00", "j012", "d0",
                  "plane", b"p0", ("p0",), ["p0"], [], (), ("p", "0"), {"p0": 1})

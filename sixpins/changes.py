"""Changes of the plane and of space, and pins that they lead to one another."""

from sixpins.checks import is_table
from sixpins.classes import FOURS, threes_on
from sixpins.curves import curves
from sixpins.echelon import basis_of
from sixpins.errors import BadTable
from sixpins.given import given_cubic, given_line
from sixpins.integers import crossing, dot, evened, mixed, plain
from sixpins.making import shares_of
from sixpins.papers import Denial, Paper
from sixpins.pins import Pins, given_pins
from sixpins.powers import form_on, monomial_images
from sixpins.tables import determinant_of, image_of, inverse_of, plain_table_of, product_of


class Settled(Paper):
    """Settled pins, and the change of the plane that leads some pins to them."""

    def __init__(self, pins, change):
        Paper.__init__(self, "settled", pins, change)
        self.pins = self.parts[0]
        self.change = self.parts[1]


class Flat(Paper):
    """A change of the plane leads the ones pins to the others."""

    def __init__(self, change):
        Paper.__init__(self, "flat", change)
        self.change = self.parts[0]


class Lifted(Paper):
    """Pins to which a change of the plane leads some, and the change of space that leads the surface along."""

    def __init__(self, pins, change):
        Paper.__init__(self, "lifted", pins, change)
        self.pins = self.parts[0]
        self.change = self.parts[1]


class Unlike(Denial):
    """Three pins are in a line in just one of two lots of pins."""

    def __init__(self, three):
        Denial.__init__(self, "unlike", three)
        self.three = self.parts[0]


class NoFlat(Denial):
    """A pin is settled at one spot in the one lot of pins, at another spot in the other."""

    def __init__(self, pin, one, other):
        Denial.__init__(self, "noflat", pin, one, other)
        self.pin = self.parts[0]
        self.one = self.parts[1]
        self.other = self.parts[2]


def frame_of(pins):
    """The frame of the pins: the first four numbers of which no three are those of pins in a line."""
    return frame_with(threes_on(given_pins(pins, "pins").bars))


def settled_pins(pins):
    """The settled pins, and the change that leads the pins to them."""
    return settled(given_pins(pins, "pins"))


def led_pins(pins, change):
    """The pins to which the change leads the pins."""
    told = given_pins(pins, "pins")
    return pins_led(told, given_change(change, 3))


def judged_flat(pins, other):
    """Whether a change leads the ones pins to the others, in order: a Flat, an Unlike or a NoFlat."""
    one = given_pins(pins, "pins")
    return judged_between(one, given_pins(other, "other"))


def lifted(pins, change):
    """The pins to which the change leads the pins, and the change of space that leads places along."""
    told = given_pins(pins, "pins")
    table = given_change(change, 3)
    led = pins_led(told, table)
    return Lifted(led, lifted_table(told, table, led))


def changed_form(form, change):
    """The form that is 0 just at the places to which the change leads those at which this form is 0."""
    told = given_cubic(form, "form")
    back = inverse_of(given_change(change, 4))
    # On the columns of the change back, its value at a row is that of the form at the row led back.
    return plain(form_on(told, 4, 3, list(zip(*back))))


def led_line(change, line):
    """The line to which the change of space leads the line."""
    table = given_change(change, 4)
    return line_led(table, given_line(line, "line"))


def given_change(value, many):
    """The plain table of a change with so many rows, passed as the parameter `change`."""
    if not is_table(value) or len(value) != many:
        raise BadTable("change")
    table = plain_table_of(tuple([tuple(row) for row in value]))
    if table is None or determinant_of(table) == 0:
        raise BadTable("change")
    return table


def frame_with(threes):
    """The frame of pins of which these threes are in a line."""
    for four in FOURS:
        if not any([three in threes for three in [four[:at] + four[at + 1:] for at in range(4)]]):
            return four
    return None


def settled(pins):
    """The Settled of the pins."""
    one, other, third, last = [pins.spots[pin] for pin in frame_with(threes_on(pins.bars))]
    sides = [crossing(other, third), crossing(third, one), crossing(one, other)]
    change = evened(sides, [dot(side, last) for side in sides])
    return Settled(pins_led(pins, change), change)


def pins_led(pins, change):
    """The pins to which a change of the plane leads the pins."""
    return Pins([image_of(change, spot) for spot in pins.spots])


def judged_between(one, other):
    """Whether a change leads the ones pins to the others: a Flat, an Unlike or a NoFlat."""
    mine, its = threes_on(one.bars), threes_on(other.bars)
    alone = [three for three in mine + its if three not in mine or three not in its]
    if alone:
        return Unlike(min(alone))
    first, second = settled(one), settled(other)
    for pin, (spot, further) in enumerate(zip(first.pins.spots, second.pins.spots)):
        if spot != further:
            return NoFlat(pin, spot, further)
    return Flat(plain_table_of(product_of(inverse_of(second.change), first.change)))


def lifted_table(pins, change, led):
    """The change of space that leads the place of each spot to that of the spot to which the change leads it."""
    # At the spots led along, the later curves are sums of the former ones.
    images = monomial_images(3, 3, list(zip(*change)))
    rows = shares_of(curves(pins), [mixed(curve, images) for curve in curves(led)])[1]
    return plain_table_of(tuple(zip(*rows)))


def line_led(change, line):
    """The line to which a change of space leads a reduced line."""
    return basis_of([image_of(change, place) for place in line], 4)

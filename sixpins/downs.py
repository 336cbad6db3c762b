"""Surfaces that come down to other pins by a renaming, and renamings that a change of space does."""

from sixpins.changes import judged_between, lifted_table
from sixpins.coming import coming_change, coming_pins
from sixpins.falls import stands
from sixpins.papers import Denial, Paper
from sixpins.renamings import given_renaming
from sixpins.roster import number_of
from sixpins.surface import given_surface
from sixpins.tables import inverse_of, plain_table_of, product_of


class Down(Paper):
    """The settled pins to which a renaming comes down, the degree, three forms, and the change of space."""

    def __init__(self, pins, degree, forms, change):
        Paper.__init__(self, "down", pins, degree, forms, change)
        self.pins = self.parts[0]
        self.degree = self.parts[1]
        self.forms = self.parts[2]
        self.change = self.parts[3]


class Move(Paper):
    """A change of space does a renaming."""

    def __init__(self, change):
        Paper.__init__(self, "move", change)
        self.change = self.parts[0]


class Fallen(Denial):
    """A name to which a renaming leads one of p0 .. p5 does not stand."""

    def __init__(self, name):
        Denial.__init__(self, "fallen", name)
        self.name = self.parts[0]


def judged_down(surface, renaming):
    """To which pins the surface comes down by the renaming: a Down or a Fallen."""
    told = given_surface(surface)
    return judged_six(told, given_renaming(renaming, "renaming").six)


def judged_move(surface, renaming):
    """Whether a change of space does the renaming: a Move, a Fallen, an Unlike or a NoFlat."""
    told = given_surface(surface)
    down = judged_six(told, given_renaming(renaming, "renaming").six)
    if not down:
        return down
    flat = judged_between(told.pins, down.pins)
    if not flat:
        return flat
    # Along to the surface of the new pins, and back from there as it came down.
    along = lifted_table(told.pins, flat.change, down.pins)
    return Move(plain_table_of(product_of(inverse_of(down.change), along)))


def judged_six(surface, names):
    """To which pins the surface comes down by the renaming of a six: a Down or a Fallen."""
    six = [number_of(name) for name in names]
    for name, number in zip(names, six):
        if not stands(surface.pins.bars, number):
            return Fallen(name)
    degree, later, forms = coming_pins(surface.pins, six)
    return Down(later, degree, forms, coming_change(surface, six, later, forms, degree))

"""A desk: pins, and the deeds that changed them."""

from sixpins.checks import is_list
from sixpins.downs import judged_down
from sixpins.errors import BadRow, Misfit, PinError
from sixpins.pins import Pins, given_pins
from sixpins.renamings import pins_swapped, pins_turned
from sixpins.roster import number_of
from sixpins.strokes import Stroke
from sixpins.surface import Surface

MOST_DEEDS = 40

# How many values stand behind the word of a deed.
VALUES = {"push": 2, "turn": 3, "swap": 2, "undo": 0}


class Desk:
    """A desk with some pins, and a stack of what can be undone."""

    def __init__(self, pins):
        self.pins = given_pins(pins, "pins")
        self.surface = Surface(pins)
        self.deeds = 0
        # Not of the interface: pins and surface ahead of each deed, the last one at the end.
        self.former = ()

    def push(self, pin, to):
        """Pushes a pin along the stroke to a spot, and returns the Stroke."""
        stroke = Stroke(self.pins, pin, to)
        self.lay(stroke.pins_at(1))
        return stroke

    def turn(self, one, other, third):
        """Goes to the pins to which the turn at three pins comes down; returns the Down, or a Fallen."""
        down = judged_down(self.surface, pins_turned(one, other, third))
        if down:
            self.lay(down.pins)
        return down

    def swap(self, pin, other):
        """Exchanges the numbers of two pins."""
        six = pins_swapped(pin, other).six
        self.lay(Pins([self.pins.spots[number_of(name)] for name in six]))

    def undo(self):
        """Undoes the last deed."""
        if self.deeds == 0:
            raise Misfit("undo")
        self.pins, self.surface = self.former[-1]
        self.former = self.former[:-1]
        self.deeds = self.deeds - 1

    def do_all(self, rows):
        """Does a list of deeds, or none of them if one raises an error; returns what they return."""
        told = given_deeds(rows)
        pins, surface, deeds, former = self.pins, self.surface, self.deeds, self.former
        answers = []
        try:
            for row in told:
                answers.append(self.do_deed(row))
        except PinError:
            self.pins, self.surface, self.deeds, self.former = pins, surface, deeds, former
            raise
        return tuple(answers)

    def do_deed(self, row):
        """Does a deed that is told by a row, and returns what it returns."""
        if row[0] == "push":
            return self.push(row[1], row[2])
        if row[0] == "turn":
            return self.turn(row[1], row[2], row[3])
        if row[0] == "swap":
            return self.swap(row[1], row[2])
        return self.undo()

    def lay(self, pins):
        """Lays other pins on the desk."""
        surface = Surface(pins)
        self.former = self.former + ((self.pins, self.surface),)
        self.deeds = self.deeds + 1
        self.pins = pins
        self.surface = surface


def given_deeds(value):
    """A list of deeds, passed as the parameter `rows`."""
    if not is_list(value, 0, MOST_DEEDS) or not all([is_deed(row) for row in value]):
        raise BadRow("rows")
    return value


def is_deed(value):
    """Whether any value is a word and as many values behind it as are told."""
    if not is_list(value, 1, None) or not isinstance(value[0], str):
        return False
    return value[0] in VALUES and len(value) == 1 + VALUES[value[0]]

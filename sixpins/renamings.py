"""Renamings: maps of the 27 names that keep who meets whom."""

from sixpins.checks import is_integers
from sixpins.classes import line_class, times_crossed
from sixpins.errors import BadNames, BadRenaming, BadRow, BadText, Misfit
from sixpins.given import given_name, given_pin
from sixpins.integers import mixed
from sixpins.names import given_six, is_names, is_six
from sixpins.papers import Denial, Paper
from sixpins.roster import (CLASSES, MANY_IN_SIX, MANY_NAMES, NAMES, PLANE_CLASS, met, names_of, number_of,
                            number_of_class, partner_at)


class Kept(Paper):
    """A map of the names is the renaming of this six."""

    def __init__(self, six):
        Paper.__init__(self, "kept", six)
        self.six = self.parts[0]


class Breaks(Denial):
    """The pictures of two names do not meet as often as the names do."""

    def __init__(self, one, other):
        Denial.__init__(self, "breaks", one, other)
        self.one = self.parts[0]
        self.other = self.parts[1]


class Renaming:
    """The renaming that leads p0 .. p5 to the names of a six, in order."""

    def __init__(self, six):
        numbers = given_six(six, "six")
        self.six = names_of(numbers)
        # Not of the interface: what each curve class is a sum of.
        self.frame = frame_of_six(numbers)

    def led_name(self, name):
        """The name to which it leads the name."""
        return NAMES[picture_by(self.frame, given_name(name, "name"))]

    def led_class(self, row):
        """The curve class to which it leads a curve class."""
        if not is_integers(row, 7):
            raise BadRow("row")
        return led_by(self.frame, row)

    def __mul__(self, other):
        if not isinstance(other, Renaming):
            return NotImplemented
        return Renaming([self.led_name(name) for name in other.six])

    def undone(self):
        """The renaming that leads each name back."""
        pictures = [picture_by(self.frame, number) for number in range(MANY_NAMES)]
        return Renaming([NAMES[pictures.index(pin)] for pin in range(MANY_IN_SIX)])

    @classmethod
    def still(cls):
        """The renaming that leads each name to itself."""
        return cls(NAMES[:MANY_IN_SIX])

    def times(self):
        """How often it must be done, at least once, until each name is led to itself."""
        many = 1
        done = self
        while done.six != NAMES[:MANY_IN_SIX]:
            done = self * done
            many = many + 1
        return many

    def __eq__(self, other):
        return isinstance(other, Renaming) and self.six == other.six

    def __str__(self):
        return " ".join(self.six)

    @classmethod
    def read(cls, text):
        """The renaming of which this is the text."""
        if not isinstance(text, str) or not is_six(text.split(" ")):
            raise BadText("text")
        return cls(text.split(" "))


def given_renaming(value, part):
    """A Renaming that is passed."""
    if not isinstance(value, Renaming):
        raise BadRenaming(part)
    return value


def frame_of_six(numbers):
    """The curve classes to which the renaming of a six leads (1, 0, .., 0) and those of p0 .. p5."""
    pins = [CLASSES[number] for number in numbers]
    # It leads the plane class, which is three times (1, 0, .., 0) and the six
    # classes of p0 .. p5, to itself.
    return [tuple([sum(column) // 3 for column in zip(PLANE_CLASS, *pins)])] + pins


def led_by(frame, row):
    """The curve class to which the renaming with this frame leads a curve class."""
    # A curve class is d times (1, 0, .., 0), less m times the class of each p.
    return mixed([row[0]] + [-number for number in row[1:]], frame)


def picture_by(frame, number):
    """The number of the name to which the renaming with this frame leads the name of this number."""
    return number_of_class(led_by(frame, CLASSES[number]))


def turned(root, number):
    """The number of the name to which the turn at a curve class leads the name of this number."""
    row = CLASSES[number]
    return number_of_class(mixed((1, times_crossed(row, root)), (row, root)))


def turn_at(root):
    """The renaming that is the turn at a curve class."""
    return Renaming(names_of([turned(root, pin) for pin in range(MANY_IN_SIX)]))


def pins_swapped(pin, other):
    """The renaming that exchanges two pins."""
    given_pin(pin, "pin")
    given_pin(other, "other")
    if pin == other:
        raise Misfit("other")
    six = list(NAMES[:MANY_IN_SIX])
    six[pin], six[other] = six[other], six[pin]
    return Renaming(six)


def pins_turned(one, other, third):
    """The renaming that is the turn at the class of a line through three pins."""
    given_pin(one, "one")
    given_pin(other, "other")
    given_pin(third, "third")
    if one == other:
        raise Misfit("other")
    if third == one or third == other:
        raise Misfit("third")
    return turn_at(line_class((one, other, third)))


def six_exchanged(six):
    """The renaming that exchanges a six and its partner, and leads all other names to themselves."""
    numbers = given_six(six, "six")
    # It is the turn at the difference of two names that are exchanged.
    return turn_at(mixed((1, -1), (CLASSES[partner_at(numbers, 0)], CLASSES[numbers[0]])))


def judged_map(pictures):
    """Whether a map of the names is a renaming: a Kept or a Breaks."""
    if not is_names(pictures, MANY_NAMES):
        raise BadNames("pictures")
    numbers = [number_of(name) for name in pictures]
    for one in range(MANY_NAMES):
        for other in range(one + 1, MANY_NAMES):
            if met(numbers[one], numbers[other]) != met(one, other):
                return Breaks(NAMES[one], NAMES[other])
    return Kept(pictures[:MANY_IN_SIX])

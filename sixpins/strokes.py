"""Strokes: one pin pushed along a straight line, and the moments at which the bars are others."""

from math import isqrt

from sixpins.checks import is_integer, is_number, is_plain, is_within
from sixpins.classes import BENT, PAIRS, line_class, threes_on
from sixpins.errors import BadNumber, Misfit, NoPins, NoStroke
from sixpins.exact import number
from sixpins.given import given_pin, given_row
from sixpins.integers import crossing, dot, mixed, plain, plain_or_none
from sixpins.papers import Denial, Paper
from sixpins.pins import Pins, given_pins, judged_pins
from sixpins.plane import curve_through
from sixpins.powers import value_at
from sixpins.surds import order_of
from sixpins.written import plane_between, plane_dot, plane_squares


class Goes(Paper):
    """A stroke: the bars that are kept, the time forms of curve classes, and the moments."""

    def __init__(self, kept, forms, moments):
        Paper.__init__(self, "goes", kept, forms, moments)
        self.kept = self.parts[0]
        self.forms = self.parts[1]
        self.moments = self.parts[2]


class Surd(Paper):
    """A number that is no fraction, at which a form of second degree is 0: the smaller or the larger one."""

    def __init__(self, form, which):
        Paper.__init__(self, "surd", form, which)
        self.form = self.parts[0]
        self.which = self.parts[1]


class Still(Denial):
    """There is no stroke, as the pin is at the spot."""

    def __init__(self):
        Denial.__init__(self, "still")


class Stroke:
    """A pin of some pins, pushed to another spot."""

    def __init__(self, pins, pin, to):
        judged = judged_stroke(pins, pin, to)
        if not judged:
            raise NoStroke(judged)
        self.pins = pins
        self.pin = pin
        self.to = plain(to)
        self.kept = judged.kept
        self.forms = judged.forms
        self.moments = judged.moments

    def __len__(self):
        return len(self.moments)

    def __iter__(self):
        return iter(self.moments)

    def __eq__(self, other):
        return (isinstance(other, Stroke) and self.pins == other.pins and self.pin == other.pin
                and self.to == other.to)

    def spot_at(self, time):
        """Where the pin is at this number from 0 to 1."""
        return spot_between(self.pins.spots[self.pin], self.to, given_part(time, "time"))

    def pins_at(self, time):
        """The pins at this number from 0 to 1."""
        return Pins(moved(self.pins, self.pin, self.spot_at(time)))

    def bars_at(self, time):
        """The ascending tuple of the bars at this time from 0 to 1."""
        told = given_time(time, "time")
        if not is_between(told):
            raise BadNumber("time")
        if isinstance(told, Surd):
            return tuple(sorted(self.kept + zeros_at(self.forms, told)))
        judged = judged_pins(moved(self.pins, self.pin, self.spot_at(told)))
        if not judged:
            raise NoPins(judged)
        return judged.bars

    def part(self, one, other):
        """The stroke of the same pin from where it is at one number to where it is at another."""
        first = given_part(one, "one")
        second = given_part(other, "other")
        if first == second:
            raise Misfit("other")
        return Stroke(self.pins_at(first), self.pin, self.spot_at(second))


def compared_times(one, other):
    """-1, 0 or 1, as the time one is less than the time other, equal to it or greater."""
    first = given_time(one, "one")
    return order_of_times(first, given_time(other, "other"))


def judged_stroke(pins, pin, to):
    """Whether a pin can be pushed to a spot: a Goes or a Still."""
    told = given_pins(pins, "pins")
    given_pin(pin, "pin")
    spot = given_row(to, 3, "to")
    if spot == told.spots[pin]:
        return Still()
    forms = time_forms(told, pin, spot)
    kept = [bar for bar in told.bars if bar[pin + 1] == 0] + [row for row, form in forms if form == ()]
    return Goes(sorted(kept), forms, [moment_at(told, pin, spot, forms, time) for time in times_of_all(forms)])


def given_time(value, part):
    """A time: a number, as a pair, or a right Surd."""
    if is_number(value):
        return as_pair(value)
    if not isinstance(value, Surd) or not is_right(value):
        raise BadNumber(part)
    return value


def given_part(value, part):
    """A number from 0 to 1, as a pair."""
    if not is_number(value) or not is_between(as_pair(value)):
        raise BadNumber(part)
    return as_pair(value)


def as_pair(value):
    """A number as a pair."""
    return (value, 1) if is_integer(value) else tuple(value)


def is_right(surd):
    """Whether a Surd tells a number that is no fraction."""
    if not is_plain(surd.form, 3) or surd.form[0] <= 0 or not is_within(surd.which, 0, 1):
        return False
    under = under_root(surd.form)
    return under > 0 and isqrt(under) * isqrt(under) != under


def under_root(form):
    """Of which number the root tells where a form of second degree is 0."""
    return form[1] * form[1] - 4 * form[0] * form[2]


def with_root(time):
    """A time as a number with a square root."""
    if not isinstance(time, Surd):
        return time[0], 0, 0, time[1]
    return -time.form[1], 2 * time.which - 1, under_root(time.form), 2 * time.form[0]


def order_of_times(one, other):
    """-1, 0 or 1, as the time one is less than the time other, equal to it or greater."""
    return order_of(with_root(one), with_root(other))


def is_between(time):
    """Whether a time is one from 0 to 1."""
    return order_of_times((0, 1), time) <= 0 <= order_of_times((1, 1), time)


def spot_between(one, other, time):
    """The spot at a number, as a pair, on the way from one spot to another."""
    return plain(mixed((time[1] - time[0], time[0]), (one, other)))


def moved(pins, pin, spot):
    """The six spots of the pins, with another one in the place of a pin."""
    return pins.spots[:pin] + (spot,) + pins.spots[pin + 1:]


def time_forms(pins, pin, to):
    """The pairs of a curve class and its time form, if the pin is pushed to a spot, ascending by the classes."""
    start = pins.spots[pin]
    step = mixed((1, -1), (to, start))
    told = []
    for one, other in PAIRS:
        if pin not in (one, other):
            side = crossing(pins.spots[one], pins.spots[other])
            form = plain_or_none((plane_dot(side, step), plane_dot(side, start)))
            told.append((line_class((pin, one, other)), form or ()))
    if all([pin in three for three in threes_on(pins.bars)]):
        curve = curve_through(pins.spots[:pin] + pins.spots[pin + 1:])
        values = (plane_squares(step), plane_between(step, start), plane_squares(start))
        told.append((BENT, plain([dot(curve, its) for its in values])))
    return sorted(told)


def times_of_all(forms):
    """The ascending list of the times from 0 to 1 at which the time forms of some classes are 0."""
    told = []
    for _, form in forms:
        for time in times_of(form):
            place = len([earlier for earlier in told if order_of_times(earlier, time) < 0])
            if is_between(time) and time not in told:
                told.insert(place, time)
    return told


def times_of(form):
    """The list of the times at which a time form is 0; none if it is so at all times."""
    if len(form) == 3 and form[0] != 0:
        return times_of_second(form)
    if form == () or form[-2] == 0:
        return []
    return [number(-form[-1], form[-2])]


def times_of_second(form):
    """The list of the times at which a form of second degree is 0."""
    under = under_root(form)
    if under < 0:
        return []
    root = isqrt(under)
    if root * root != under:
        return [Surd(form, 0), Surd(form, 1)]
    return [number(-form[1] - root, 2 * form[0]), number(-form[1] + root, 2 * form[0])]


def zeros_at(forms, time):
    """The ascending tuple of the classes whose time forms, not (), are 0 at a time."""
    if isinstance(time, Surd):
        # It tells the one plain form that is 0 there.
        return tuple([row for row, form in forms if form == time.form])
    return tuple([row for row, form in forms if form != () and value_at(form, len(form) - 1, time) == 0])


def moment_at(pins, pin, to, forms, time):
    """The row of a moment: the time, the further bars, and why there are no pins, or None."""
    if not isinstance(time, Surd):
        judged = judged_pins(moved(pins, pin, spot_between(pins.spots[pin], to, time)))
        if not judged:
            return time, (), judged
    return time, zeros_at(forms, time), None

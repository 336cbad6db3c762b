"""Pins: six spots, their bars, and the kind of pins."""

from sixpins.checks import is_row, is_within
from sixpins.classes import BENT, line_class, times_crossed
from sixpins.errors import BadNumber, BadPins, BadText, NoPins
from sixpins.given import given_rows
from sixpins.integers import ascending_choices, crossing, dot, plain
from sixpins.papers import Denial, Paper
from sixpins.plane import seconds_at
from sixpins.rows import read_row, row_text

MANY = 6


class Apart(Paper):
    """The spots are pins, with these bars."""

    def __init__(self, bars):
        Paper.__init__(self, "apart", bars)
        self.bars = self.parts[0]


class Same(Denial):
    """Two of the spots are equal."""

    def __init__(self, one, other):
        Denial.__init__(self, "same", one, other)
        self.one = self.parts[0]
        self.other = self.parts[1]


class InLine(Denial):
    """Four of the spots are in one line."""

    def __init__(self, four):
        Denial.__init__(self, "inline", four)
        self.four = self.parts[0]


def judged_pins(spots):
    """Whether six spots are pins: an Apart, a Same or an InLine."""
    told = given_rows(spots, MANY, MANY, 3, "spots")
    for one, other in ascending_choices(0, MANY, 2):
        if told[one] == told[other]:
            return Same(one, other)
    threes = threes_in_line(told)
    for four in ascending_choices(0, MANY, 4):
        # Unlike spots: two threes with two of them in common tell one line.
        if four[:3] in threes and four[1:] in threes:
            return InLine(four)
    return Apart(bars_of(told, threes))


def threes_in_line(spots):
    """The ascending list of the threes of numbers whose spots are in a line."""
    return [(one, other, third) for one, other, third in ascending_choices(0, MANY, 3)
            if dot(crossing(spots[one], spots[other]), spots[third]) == 0]


def bars_of(spots, threes):
    """The ascending tuple of the bars of pins with these threes in a line."""
    if threes:
        return tuple(sorted([line_class(three) for three in threes]))
    return (BENT,) if seconds_at(spots) else ()


def curve_of(spots):
    """The form of second degree that is 0 at all six spots; None if there is none but zeros."""
    forms = seconds_at(spots)
    return forms[0] if forms else None


def kind_of(bars):
    """The kind of pins with these bars."""
    for one, other in ascending_choices(0, len(bars), 2):
        if times_crossed(bars[one], bars[other]) == 1:
            return (2,)
    return (1,) * len(bars)


class Pins:
    """Six spots, unlike, no four of them in one line."""

    def __init__(self, spots):
        judged = judged_pins(spots)
        if not judged:
            raise NoPins(judged)
        self.spots = tuple([plain(spot) for spot in spots])
        self.bars = judged.bars
        self.kind = kind_of(self.bars)
        self.curve = curve_of(self.spots)

    def through(self, *numbers):
        """The ascending tuple of the bars that have 1 at each of the told pins."""
        if not all([is_within(pin, 0, MANY - 1) for pin in numbers]):
            raise BadNumber("numbers")
        return tuple([bar for bar in self.bars if all([bar[pin + 1] == 1 for pin in numbers])])

    def __len__(self):
        return len(self.spots)

    def __iter__(self):
        return iter(self.spots)

    def __contains__(self, value):
        return is_row(value, 3) and plain(value) in self.spots

    def __eq__(self, other):
        return isinstance(other, Pins) and self.spots == other.spots

    def __str__(self):
        return " ".join([row_text(spot) for spot in self.spots])

    @classmethod
    def read(cls, text):
        """The pins of which this is the text."""
        if not isinstance(text, str):
            raise BadText("text")
        words = text.split(" ")
        if len(words) != MANY:
            raise BadText("text")
        return cls([read_row(word, 3) for word in words])


def given_pins(value, part):
    """Pins that are passed."""
    if not isinstance(value, Pins):
        raise BadPins(part)
    return value

"""Pins: six spots, their bars, and the kind of pins."""

from sixpins.checks import is_row, is_within
from sixpins.classes import BENT, FOURS, PAIRS, THREES, line_class, times_crossed
from sixpins.errors import BadNumber, BadPins, BadText, NoPins
from sixpins.given import given_rows
from sixpins.integers import crossing, plain
from sixpins.papers import Denial, Paper
from sixpins.plane import seconds_at
from sixpins.rows import read_row, row_text
from sixpins.written import plane_dot

MANY = 6


class Apart(Paper):
    """The spots are pins, with these bars."""

    def __init__(self, bars):
        Paper.__init__(self, "apart", bars)
        self.bars = self.parts[0]


class Same(Denial):
    """Two of the spots are equal."""

    def __init__(self, one, other):
        Denial.__init__(self, "same", one, other)
        self.one = self.parts[0]
        self.other = self.parts[1]


class InLine(Denial):
    """Four of the spots are in one line."""

    def __init__(self, four):
        Denial.__init__(self, "inline", four)
        self.four = self.parts[0]


def judged_pins(spots):
    """Whether six spots are pins: an Apart, a Same or an InLine."""
    told = given_spots(spots)
    return judged_by(told, brackets_of(told))


def given_spots(value):
    """The plain rows of six spots, passed as the parameter `spots`."""
    return given_rows(value, MANY, MANY, 3, "spots")


def brackets_of(spots):
    """For each three numbers the determinant of these spots."""
    sides = {pair: crossing(spots[pair[0]], spots[pair[1]]) for pair in PAIRS}
    return {three: plane_dot(sides[three[:2]], spots[three[2]]) for three in THREES}


def judged_by(spots, brackets):
    """Whether six spots with these brackets are pins."""
    if len(set(spots)) < MANY:
        one, other = [pair for pair in PAIRS if spots[pair[0]] == spots[pair[1]]][0]
        return Same(one, other)
    threes = [three for three in THREES if brackets[three] == 0]
    if len(threes) >= 4:
        # Unlike spots: two threes with two of them in common tell one line.
        fours = [four for four in FOURS if four[:3] in threes and four[1:] in threes]
        if fours:
            return InLine(fours[0])
    return Apart(bars_of(threes, brackets))


def bars_of(threes, brackets):
    """The ascending tuple of the bars of pins with these threes in a line, and these brackets."""
    if threes:
        return tuple(sorted([line_class(three) for three in threes]))
    return (BENT,) if is_on_curve(brackets) else ()


def is_on_curve(brackets):
    """Whether all six spots are on a curve of second degree."""
    # Up to the sign, both products differ by the determinant of the values of xx, xy, .., zz at the spots.
    one = brackets[0, 1, 2] * brackets[0, 3, 4] * brackets[1, 3, 5] * brackets[2, 4, 5]
    return one == brackets[0, 1, 3] * brackets[0, 2, 4] * brackets[1, 2, 5] * brackets[3, 4, 5]


def kind_of(bars):
    """The kind of pins with these bars."""
    # No third bar stands beside two that belong together.
    if len(bars) == 2 and times_crossed(bars[0], bars[1]) == 1:
        return (2,)
    return (1,) * len(bars)


class Pins:
    """Six spots, unlike, no four of them in one line."""

    def __init__(self, spots):
        told = given_spots(spots)
        brackets = brackets_of(told)
        judged = judged_by(told, brackets)
        if not judged:
            raise NoPins(judged)
        self.spots = told
        self.bars = judged.bars
        self.kind = kind_of(self.bars)
        self.curve = seconds_at(told)[0] if is_on_curve(brackets) else None

    def through(self, *numbers):
        """The ascending tuple of the bars that have 1 at each of the told pins."""
        if not all([is_within(pin, 0, MANY - 1) for pin in numbers]):
            raise BadNumber("numbers")
        return tuple([bar for bar in self.bars if all([bar[pin + 1] == 1 for pin in numbers])])

    def __len__(self):
        return len(self.spots)

    def __iter__(self):
        return iter(self.spots)

    def __contains__(self, value):
        return is_row(value, 3) and plain(value) in self.spots

    def __eq__(self, other):
        return isinstance(other, Pins) and self.spots == other.spots

    def __str__(self):
        return " ".join([row_text(spot) for spot in self.spots])

    @classmethod
    def read(cls, text):
        """The pins of which this is the text."""
        if not isinstance(text, str):
            raise BadText("text")
        words = text.split(" ")
        if len(words) != MANY:
            raise BadText("text")
        return cls([read_row(word, 3) for word in words])


def given_pins(value, part):
    """Pins that are passed."""
    if not isinstance(value, Pins):
        raise BadPins(part)
    return value

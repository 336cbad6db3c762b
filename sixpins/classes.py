"""Curve classes: how often they meet, and which of them are bars."""

BENT = (2, 1, 1, 1, 1, 1, 1)


def times_crossed(one, other):
    """How often two curve classes meet."""
    return one[0] * other[0] - sum([mine * its for mine, its in zip(one[1:], other[1:])])


def pins_with(row):
    """The ascending list of the numbers of the pins at which a curve class has 1."""
    return [pin for pin in range(6) if row[pin + 1] == 1]


def line_class(pins):
    """The curve class of a line through the pins of these numbers."""
    return (1,) + tuple([1 if pin in pins else 0 for pin in range(6)])


def threes_on(bars):
    """The ascending list of the threes of numbers of pins that are in a line, if these are the bars."""
    return sorted([tuple(pins_with(bar)) for bar in bars if bar[0] == 1])

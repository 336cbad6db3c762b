"""Curve classes: how often they meet, and which of them are bars."""

BENT = (2, 1, 1, 1, 1, 1, 1)

# All ascending pairs, threes and fours of numbers of pins, ascending.
PAIRS = ((0, 1), (0, 2), (0, 3), (0, 4), (0, 5), (1, 2), (1, 3), (1, 4), (1, 5), (2, 3), (2, 4), (2, 5), (3, 4),
         (3, 5), (4, 5))
THREES = ((0, 1, 2), (0, 1, 3), (0, 1, 4), (0, 1, 5), (0, 2, 3), (0, 2, 4), (0, 2, 5), (0, 3, 4), (0, 3, 5),
          (0, 4, 5), (1, 2, 3), (1, 2, 4), (1, 2, 5), (1, 3, 4), (1, 3, 5), (1, 4, 5), (2, 3, 4), (2, 3, 5),
          (2, 4, 5), (3, 4, 5))
FOURS = ((0, 1, 2, 3), (0, 1, 2, 4), (0, 1, 2, 5), (0, 1, 3, 4), (0, 1, 3, 5), (0, 1, 4, 5), (0, 2, 3, 4),
         (0, 2, 3, 5), (0, 2, 4, 5), (0, 3, 4, 5), (1, 2, 3, 4), (1, 2, 3, 5), (1, 2, 4, 5), (1, 3, 4, 5),
         (2, 3, 4, 5))


def times_crossed(one, other):
    """How often two curve classes meet."""
    return one[0] * other[0] - sum([mine * its for mine, its in zip(one[1:], other[1:])])


def pins_with(row):
    """The ascending list of the numbers of the pins at which a curve class has 1."""
    return [pin for pin in range(6) if row[pin + 1] == 1]


def line_class(pins):
    """The curve class of a line through the pins of these numbers."""
    return (1,) + tuple([1 if pin in pins else 0 for pin in range(6)])


def threes_on(bars):
    """The ascending list of the threes of numbers of pins that are in a line, if these are the bars."""
    return sorted([tuple(pins_with(bar)) for bar in bars if bar[0] == 1])

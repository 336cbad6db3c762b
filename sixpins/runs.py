"""Runs: strokes one behind another, and what becomes of the names on the way."""

from sixpins.checks import is_list, is_row, is_within
from sixpins.errors import BadRow, BadStroke, Misfit, NoStroke, TooMany
from sixpins.falls import fallen
from sixpins.given import given_name
from sixpins.integers import plain
from sixpins.papers import Denial
from sixpins.pins import Pins, given_pins, judged_pins
from sixpins.roster import NAMES
from sixpins.strokes import Still, Stroke, moved

MOST_ROWS = 40


class Halts(Denial):
    """A run halts at the stroke of this row."""

    def __init__(self, row, why):
        Denial.__init__(self, "halts", row, why)
        self.row = self.parts[0]
        self.why = self.parts[1]


class Run:
    """Strokes, one behind another, from some pins."""

    def __init__(self, pins, rows):
        first = given_pins(pins, "pins")
        told = given_pushes(rows)
        if len(told) > MOST_ROWS:
            raise TooMany("rows", MOST_ROWS)
        strokes, ends = [], [first]
        for at, (pin, to) in enumerate(told):
            why = why_none(ends[at], pin, to)
            if why is not None:
                raise NoStroke(Halts(at, why))
            strokes.append(Stroke(ends[at], pin, to))
            ends.append(Pins(moved(ends[at], pin, to)))
        self.pins = first
        self.rows = told
        self.strokes = tuple(strokes)
        self.ends = tuple(ends)
        self.last = ends[-1]

    def __len__(self):
        return len(self.strokes)

    def __eq__(self, other):
        return isinstance(other, Run) and self.pins == other.pins and self.rows == other.rows

    def then(self, other):
        """The run that does this one, and the other one behind it."""
        if not isinstance(other, Run):
            raise BadStroke("other")
        if other.pins != self.last:
            raise Misfit("other")
        return Run(self.pins, self.rows + other.rows)

    def back(self):
        """The run from the last pins that does the strokes back, the last one first."""
        rows = [(stroke.pin, stroke.pins.spots[stroke.pin]) for stroke in self.strokes]
        return Run(self.last, rows[::-1])

    def followed(self, name):
        """For each stroke, and for each moment of it, the name on which a name falls."""
        number = given_name(name, "name")
        told = []
        for at, stroke in enumerate(self.strokes):
            told.append((at, None, NAMES[fallen(stroke.kept, number)]))
            for time, bars, why in stroke.moments:
                told.append((at, time, NAMES[fallen(stroke.kept + bars, number)] if why is None else None))
        return tuple(told)


def given_pushes(value):
    """A list of pairs of the number of a pin and the row of a spot, passed as the parameter `rows`."""
    if not is_list(value, 0, None) or not all([is_push(row) for row in value]):
        raise BadRow("rows")
    return tuple([(pin, plain(to)) for pin, to in value])


def is_push(value):
    """Whether any value is a pair of the number of a pin and the row of a spot."""
    return is_list(value, 2, 2) and is_within(value[0], 0, 5) and is_row(value[1], 3)


def why_none(pins, pin, to):
    """Why a pin cannot be pushed to a spot, or there are no pins then; None if it can."""
    if pins.spots[pin] == to:
        return Still()
    judged = judged_pins(moved(pins, pin, to))
    return None if judged else judged

"""Peaks of a surface, touching planes, and what forms have in common along lines."""

from sixpins.classes import pins_with
from sixpins.cubics import common_by, common_on, slopes_at_row
from sixpins.drawing import row_towards, spot_beside
from sixpins.errors import Misfit
from sixpins.falls import standing_numbers
from sixpins.given import given_cubic, given_line, given_row
from sixpins.integers import mixed, plain, plain_or_none
from sixpins.noother import no_other_line
from sixpins.papers import Paper
from sixpins.surface import given_surface
from sixpins.written import space_dot, space_slopes


class Peak(Paper):
    """A peak of a surface, with the bars that shrink to it, and its cone."""

    def __init__(self, place, bars, cone):
        Paper.__init__(self, "peak", place, bars, cone)
        self.place = self.parts[0]
        self.bars = self.parts[1]
        self.cone = self.parts[2]


class NoOtherPeak(Paper):
    """All lines on a form, what shows that they are all, and the common form of each."""

    def __init__(self, lines, alone, commons):
        Paper.__init__(self, "nootherpeak", lines, alone, commons)
        self.lines = self.parts[0]
        self.alone = self.parts[1]
        self.commons = self.parts[2]


def told_peaks(surface):
    """The tuple of the Peaks of the surface, ascending by places."""
    told = given_surface(surface)
    bars_at = {}
    for bar in told.pins.bars:
        bars_at.setdefault(shrunk(told, bar), []).append(bar)
    return tuple([Peak(place, bars_at[place], cone_of(told.form, place)) for place in sorted(bars_at)])


def touching_plane(surface, place):
    """The plane that touches the surface at a place that is no peak."""
    told = given_surface(surface)
    plane = touching_at(told.form, given_row(place, 4, "place"))
    if plane is None:
        raise Misfit("place")
    return plane


def common_along(form, line):
    """The common form of a line, () if there is none."""
    told = given_cubic(form, "form")
    return common_by(space_slopes(told), given_line(line, "line"))


def no_other_peak(surface):
    """A NoOtherPeak that shows that the places of the told peaks are all peaks of the surface."""
    told = given_surface(surface)
    lines = [told.lines[number] for number in standing_numbers(told.pins.bars)]
    return NoOtherPeak(lines, no_other_line(told), [common_on(told.form_slopes, line) for line in lines])


def touching_at(form, place):
    """The plane that touches a form at a place; None for a peak, or where the form is not 0."""
    plane = slopes_at_row(space_slopes(form), place)
    # Three times the value of the form is the sum of its slopes, each times its letter.
    return plain_or_none(plane) if space_dot(plane, place) == 0 else None


def shrunk(surface, bar):
    """The place to which a bar shrinks."""
    through = pins_with(bar)
    # Two pins tell the line of a bar, five the bent curve.
    spot = spot_beside(surface.pins, through[0], through[:2] if bar[0] == 1 else through[:5])
    return plain(row_towards(surface.slopes, through[0], spot))


def cone_of(form, peak):
    """The cone of a peak, as a plain row."""
    # At the peak and s times a row q the form has, times s s, the sum of its
    # slopes at q, each times the peak's integer for its letter.
    return plain(mixed(peak, space_slopes(form)))

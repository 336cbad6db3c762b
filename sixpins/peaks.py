"""Peaks of a surface, touching planes, and what forms have in common along lines."""

from sixpins.classes import pins_with
from sixpins.drawing import line_along, row_along
from sixpins.echelon import basis_of, kernel_of
from sixpins.errors import Misfit
from sixpins.falls import standing_numbers
from sixpins.given import given_cubic, given_line, given_row
from sixpins.integers import mixed, plain, plain_or_none
from sixpins.noother import no_other_line
from sixpins.papers import Paper
from sixpins.powers import all_slopes, form_on, slopes_at
from sixpins.surface import given_surface, is_zero_at


class Peak(Paper):
    """A peak of a surface, with the bars that shrink to it, and its cone."""

    def __init__(self, place, bars, cone):
        Paper.__init__(self, "peak", place, bars, cone)
        self.place = self.parts[0]
        self.bars = self.parts[1]
        self.cone = self.parts[2]


class NoOtherPeak(Paper):
    """All lines on a form, what shows that they are all, and the common form of each."""

    def __init__(self, lines, alone, commons):
        Paper.__init__(self, "nootherpeak", lines, alone, commons)
        self.lines = self.parts[0]
        self.alone = self.parts[1]
        self.commons = self.parts[2]


def told_peaks(surface):
    """The tuple of the Peaks of the surface, ascending by places."""
    told = given_surface(surface)
    bars_at = {}
    for bar in told.pins.bars:
        bars_at.setdefault(shrunk(told, bar), []).append(bar)
    return tuple([Peak(place, bars_at[place], cone_of(told.form, place)) for place in sorted(bars_at)])


def touching_plane(surface, place):
    """The plane that touches the surface at a place that is no peak."""
    told = given_surface(surface)
    plane = touching_at(told.form, given_row(place, 4, "place"))
    if plane is None:
        raise Misfit("place")
    return plane


def common_along(form, line):
    """The common form of a line, () if there is none."""
    told = given_cubic(form, "form")
    return common_form(told, given_line(line, "line"))


def no_other_peak(surface):
    """A NoOtherPeak that shows that the places of the told peaks are all peaks of the surface."""
    told = given_surface(surface)
    lines = [told.lines[number] for number in standing_numbers(told.pins.bars)]
    return NoOtherPeak(lines, no_other_line(told), [common_form(told.form, line) for line in lines])


def touching_at(form, place):
    """The plane that touches a form at a place; None for a peak, or where the form is not 0."""
    return plain_or_none(slopes_at(form, 3, place)) if is_zero_at(form, place) else None


def shrunk(surface, bar):
    """The place to which a bar shrinks."""
    through = pins_with(bar)
    # Two pins tell the line of a bar, five the bent curve.
    line = line_along(surface.pins, through[:2] if bar[0] == 1 else through[:5], through[0])
    return plain(row_along(surface.pins, surface.slopes, through[0], line))


def cone_of(form, peak):
    """The cone of a peak, as a plain row."""
    # At the peak and s times a row q the form has, times s s, the sum of its
    # slopes at q, each times the peak's integer for its letter.
    return plain(mixed(peak, all_slopes(form, 4, 3)))


def common_form(form, line):
    """The common form of a reduced line, () if there is none."""
    forms = basis_of([form_on(slope, 4, 2, line) for slope in all_slopes(form, 4, 3)], 3)
    if len(forms) <= 1:
        return forms[0] if forms else ()
    return common_of_two(forms) if len(forms) == 2 else (1,)


def common_of_two(forms):
    """The common form of two independent forms of second degree in two letters."""
    # If they are 0 at one (s, t), then ss, st, tt are the one row that is orthogonal to both.
    squared, mixed_term, further = kernel_of(forms, 3)[0]
    if squared * further != mixed_term * mixed_term:
        return (1,)
    root = (squared, mixed_term) if squared != 0 else (0, 1)
    return factor_at(root)


def factor_at(root):
    """The plain form of first degree in s and t that is 0 at this s and t."""
    return plain((root[1], -root[0]))

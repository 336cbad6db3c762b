"""The lines of the names on a surface."""

from sixpins.errors import Misfit
from sixpins.falls import all_fallen, standing_numbers, stands, those_on
from sixpins.given import given_line, given_name, given_row
from sixpins.roster import NAMES, names_of
from sixpins.space import common_place, is_on
from sixpins.surface import given_surface


def line_of(surface, name):
    """The line of the name, standing or not."""
    told = given_surface(surface)
    return told.lines[given_name(name, "name")]


def told_lines(surface):
    """The rows (name, line, weight) of all standing names, ascending by names."""
    told = given_surface(surface)
    onto = all_fallen(told.pins.bars)
    return tuple([(NAMES[number], told.lines[number], len(those_on(onto, number)))
                  for number in standing_numbers(told.pins.bars)])


def name_of_line(surface, line):
    """The standing name with this line; None if there is none."""
    told = given_surface(surface)
    sought = given_line(line, "line")
    names = [NAMES[number] for number in standing_numbers(told.pins.bars) if told.lines[number] == sought]
    return names[0] if names else None


def names_on(surface, place):
    """The ascending tuple of the standing names on whose lines the place lies."""
    told = given_surface(surface)
    row = given_row(place, 4, "place")
    return names_of([number for number in standing_numbers(told.pins.bars) if is_on(told.lines[number], row)])


def meeting_place(surface, one, other):
    """The place that the lines of two unlike standing names have in common; None if there is none."""
    told = given_surface(surface)
    first = given_name(one, "one")
    second = given_name(other, "other")
    if not stands(told.pins.bars, first):
        raise Misfit("one")
    if not stands(told.pins.bars, second) or first == second:
        raise Misfit("other")
    return common_place(told.lines[first], told.lines[second])

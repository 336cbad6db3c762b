"""Fans: five planes through a line on a form, in each of which it has two further lines."""

from sixpins.cubics import fifth_by, free_places, lies_by
from sixpins.errors import Misfit
from sixpins.falls import stands
from sixpins.given import given_cubic, given_line, given_name
from sixpins.integers import leading_place, plain
from sixpins.papers import Paper
from sixpins.roster import PAIRS_BESIDE
from sixpins.space import plane_of_lines
from sixpins.surface import given_surface
from sixpins.written import pair_product, space_slopes


class Fan(Paper):
    """Five planes through a line, with two lines in each, and a scale."""

    def __init__(self, line, fives, scale):
        Paper.__init__(self, "fan", line, fives, scale)
        self.line = self.parts[0]
        self.fives = self.parts[1]
        self.scale = self.parts[2]


def fifth_form(form, line):
    """The fifth form of a line that lies on a form of third degree in space."""
    told = given_cubic(form, "form")
    slopes = space_slopes(told)
    rows = given_line(line, "line")
    if not lies_by(slopes, rows):
        raise Misfit("line")
    return fifth_by(told, slopes, rows, free_places(rows))


def fan_of(surface, name):
    """The fan of the line of a standing name."""
    told = given_surface(surface)
    number = given_name(name, "name")
    if not stands(told.pins.bars, number):
        raise Misfit("name")
    return fan_at(told, number)


def fan_at(surface, number):
    """The fan of the line of the standing name of this number."""
    line = surface.lines[number]
    fives = []
    for one, other in PAIRS_BESIDE[number]:
        first, second = surface.lines[one], surface.lines[other]
        fives.append((plane_of_lines((line, first, second)), first, second))
    factors = factors_product(line, [five[0] for five in fives])
    fifth = fifth_by(surface.form, surface.form_slopes, line, free_places(line))
    lead = leading_place(factors)
    return Fan(line, fives, fifth[lead] // factors[lead])


def factors_product(line, planes):
    """The product of the factors of some planes through a line."""
    left, right = free_places(line)
    told = [1]
    for plane in planes:
        told = pair_product(told, plain((plane[left], plane[right])))
    return tuple(told)

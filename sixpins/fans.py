"""Fans: five planes through a line on a form, in each of which it has two further lines."""

from sixpins.errors import Misfit
from sixpins.falls import stands
from sixpins.given import given_cubic, given_line, given_name
from sixpins.integers import leading_place, mixed, plain
from sixpins.papers import Paper
from sixpins.powers import form_on, product_form, product_of_firsts
from sixpins.roster import pairs_beside
from sixpins.space import plane_of_lines
from sixpins.surface import given_surface


class Fan(Paper):
    """Five planes through a line, with two lines in each, and a scale."""

    def __init__(self, line, fives, scale):
        Paper.__init__(self, "fan", line, fives, scale)
        self.line = self.parts[0]
        self.fives = self.parts[1]
        self.scale = self.parts[2]


def fifth_form(form, line):
    """The fifth form of a line that lies on a form of third degree in space."""
    told = given_cubic(form, "form")
    fifth = fifth_or_none(told, given_line(line, "line"))
    if fifth is None:
        raise Misfit("line")
    return fifth


def fan_of(surface, name):
    """The fan of the line of a standing name."""
    told = given_surface(surface)
    number = given_name(name, "name")
    if not stands(told.pins.bars, number):
        raise Misfit("name")
    return fan_at(told, number)


def fan_at(surface, number):
    """The fan of the line of the standing name of this number."""
    line = surface.lines[number]
    fives = []
    for one, other in pairs_beside(number):
        first, second = surface.lines[one], surface.lines[other]
        fives.append((plane_of_lines((line, first, second)), first, second))
    factors = factors_product(line, [five[0] for five in fives])
    fifth = fifth_or_none(surface.form, line)
    lead = leading_place(factors)
    return Fan(line, fives, fifth[lead] // factors[lead])


def fifth_or_none(form, line):
    """The fifth form of a line, reduced; None if it does not lie on the form."""
    rows = line + tuple([unit_row(place) for place in free_places(line)])
    # The letters are s, t, w u and w v.
    told = form_on(form, 4, 3, rows)
    if (told[0], told[1], told[4], told[10]) != (0, 0, 0, 0):
        return None
    ss, st, tt = told[2:4], told[5:7], told[11:13]
    s, t, alone = told[7:10], told[13:16], told[16:20]
    terms = (joint(ss, tt, alone), joint(st, s, t), joint(ss, t, t), joint(tt, s, s), joint(alone, st, st))
    return mixed((4, 1, -1, -1, -1), terms)


def joint(*forms):
    """The product of some forms in two letters."""
    told = (1,)
    for form in forms:
        told = product_form(told, form, 2, len(told) - 1, len(form) - 1)
    return told


def free_places(line):
    """The two places that are leading places of neither row of a reduced line, ascending."""
    leads = [leading_place(row) for row in line]
    return [place for place in range(4) if place not in leads]


def unit_row(at):
    """The row of four with 1 at this place and 0 elsewhere."""
    return tuple([1 if place == at else 0 for place in range(4)])


def factors_product(line, planes):
    """The product of the factors of some planes through a line."""
    return product_of_firsts([plain([plane[place] for place in free_places(line)]) for plane in planes])

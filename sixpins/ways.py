"""A surface as three planes less three planes, told by arrays."""

from sixpins.integers import crossing, plain
from sixpins.names import given_array
from sixpins.papers import Denial, Paper
from sixpins.space import plane_of_lines
from sixpins.surface import given_surface
from sixpins.written import triple_product


class Way(Paper):
    """Scale times the form is one times the product of the first planes, plus other times that of the second ones."""

    def __init__(self, first, second, scale, one, other):
        Paper.__init__(self, "way", first, second, scale, one, other)
        self.first = self.parts[0]
        self.second = self.parts[1]
        self.scale = self.parts[2]
        self.one = self.parts[3]
        self.other = self.parts[4]


class Alike(Denial):
    """The planes of the rows are those of the columns, each as often."""

    def __init__(self, planes):
        Denial.__init__(self, "alike", planes)
        self.planes = self.parts[0]


def way_of(surface, array):
    """The Way of an array, or an Alike."""
    told = given_surface(surface)
    rows = given_array(array, "array")
    lines = [[told.lines[number] for number in row] for row in rows]
    first = [plane_of_lines(row) for row in lines]
    second = [plane_of_lines(column) for column in zip(*lines)]
    if sorted(first) == sorted(second):
        return Alike(sorted(first))
    products = (triple_product(first[0], first[1], first[2]), triple_product(second[0], second[1], second[2]))
    scale, less, further = adding_up(told.form, products[0], products[1])
    return Way(first, second, scale, -less, -further)


def adding_up(one, other, third):
    """The plain row by which three forms add up to zeros; no two of them are numbers times one another."""
    rows = [row for row in zip(one, other, third) if row != (0, 0, 0)]
    told = [crossing(rows[0], row) for row in rows[1:]]
    return plain([row for row in told if row != (0, 0, 0)][0])

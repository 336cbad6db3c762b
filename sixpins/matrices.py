"""Matrices of three rows of three forms of first degree in space, and the surface as their determinant."""

from sixpins.changes import lifted_table, settled
from sixpins.checks import is_integer_rows, is_list
from sixpins.curves import curves
from sixpins.downs import judged_six
from sixpins.echelon import kernel_of
from sixpins.errors import BadForm
from sixpins.falls import fallen
from sixpins.given import given_row
from sixpins.integers import leading_place, mixed
from sixpins.making import matrix_determinant, matrix_of, relations_of
from sixpins.papers import Denial, Paper
from sixpins.pins import Pins
from sixpins.renamings import given_renaming
from sixpins.roster import MANY_IN_SIX, MANY_NAMES, names_of
from sixpins.surface import given_surface
from sixpins.tables import image_of, inverse_of, plain_table_of, product_of


class Matrix(Paper):
    """The determinant of the matrix of a surface is scale times its form."""

    def __init__(self, scale):
        Paper.__init__(self, "matrix", scale)
        self.scale = self.parts[0]


class Across(Paper):
    """The six across, the pins across, and the change of space to their surface."""

    def __init__(self, names, pins, change):
        Paper.__init__(self, "across", names, pins, change)
        self.names = self.parts[0]
        self.pins = self.parts[1]
        self.change = self.parts[2]


class Carried(Paper):
    """The determinant of a matrix that was carried along is scale times the form of the surface."""

    def __init__(self, matrix, scale):
        Paper.__init__(self, "carried", matrix, scale)
        self.matrix = self.parts[0]
        self.scale = self.parts[1]


class OnCurve(Denial):
    """All six pins are on a curve of second degree, so that the determinant is 0 throughout."""

    def __init__(self, curve):
        Denial.__init__(self, "oncurve", curve)
        self.curve = self.parts[0]


def matrix_at(matrix, place):
    """The table of the values of the nine forms of a matrix at a place."""
    told = given_matrix(matrix)
    return table_at(told, given_row(place, 4, "place"))


def determinant_form(matrix):
    """The determinant of a matrix, a form of third degree in space."""
    return matrix_determinant(given_matrix(matrix))


def judged_matrix(surface):
    """How often the determinant of the surface's matrix is its form: a Matrix or an OnCurve."""
    told = given_surface(surface)
    if told.pins.curve is not None:
        return OnCurve(told.pins.curve)
    return Matrix(scale_of(told.matrix, told.form))


def left_spot(surface, place):
    """The spot by which the rows of the surface's table at the place add up to zeros; None if there is not just one."""
    told = given_surface(surface)
    return left_at(told, given_row(place, 4, "place"))


def right_spot(surface, place):
    """The spot that the surface's table at the place leads to zeros; None if there is not just one."""
    told = given_surface(surface)
    return only_row(table_at(told.matrix, given_row(place, 4, "place")))


def told_across(surface):
    """The Across of the surface."""
    told = given_surface(surface)
    six = [fallen(told.pins.bars, number) for number in range(MANY_NAMES - MANY_IN_SIX, MANY_NAMES)]
    across = Pins([left_along(told, told.lines[number]) for number in six])
    down = judged_six(told, names_of(six))
    # The pins to which the six comes down are the pins across, settled.
    along = lifted_table(down.pins, inverse_of(settled(across).change), across)
    return Across(names_of(six), across, plain_table_of(product_of(along, down.change)))


def carried_matrix(surface, renaming):
    """The matrix of the surface that is carried along a renaming: a Carried, a Fallen or an OnCurve."""
    told = given_surface(surface)
    down = judged_six(told, given_renaming(renaming, "renaming").six)
    if not down:
        return down
    if down.pins.curve is not None:
        return OnCurve(down.pins.curve)
    matrix = matrix_of(relations_of(curves(down.pins)))
    carried = [[mixed(form, down.change) for form in row] for row in matrix]
    return Carried(carried, scale_of(carried, told.form))


def given_matrix(value):
    """A matrix that is passed as the parameter `matrix`."""
    if not is_list(value, 3, 3) or not all([is_integer_rows(row, 3, 3, 4) for row in value]):
        raise BadForm("matrix")
    return tuple([tuple([tuple(form) for form in row]) for row in value])


def table_at(matrix, place):
    """The table of the values of the nine forms at a row."""
    return tuple([image_of(row, place) for row in matrix])


def only_row(rows):
    """The plain row of three that is orthogonal to all rows; None if it is not the only one."""
    told = kernel_of(rows, 3)
    return told[0] if len(told) == 1 else None


def left_at(surface, place):
    """The left spot of a surface at a plain row; None if it is not the only one."""
    table = table_at(surface.matrix, place)
    return only_row(list(zip(*table)))


def left_along(surface, line):
    """The left spot at all places of a line of the surface but its peaks."""
    # A line of a surface has two peaks at most.
    places = [line[0], line[1], mixed((1, 1), line)]
    return [spot for spot in [left_at(surface, place) for place in places] if spot is not None][0]


def scale_of(matrix, form):
    """How often the determinant of a matrix is a form, if it is."""
    lead = leading_place(form)
    return matrix_determinant(matrix)[lead] // form[lead]

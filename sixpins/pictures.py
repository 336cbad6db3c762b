"""Pictures of how a plane of space cuts a surface."""

from sixpins.echelon import kernel_of
from sixpins.falls import standing_numbers
from sixpins.given import given_integer, given_row
from sixpins.integers import mixed, plain
from sixpins.powers import by_last_alone, form_on, parts_by_last, value_by_last
from sixpins.space import is_on
from sixpins.surface import given_surface

MOST_CELLS = 60
MOST_UNDER = 9999


def picture(surface, plane, wide, high, under):
    """The rows of signs that show how a plane cuts the surface, the upper row first."""
    told = given_surface(surface)
    basis = kernel_of([given_row(plane, 4, "plane")], 4)
    given_integer(wide, 1, MOST_CELLS, "wide")
    given_integer(high, 1, MOST_CELLS, "high")
    given_integer(under, 1, MOST_UNDER, "under")
    # The columns tell the last letter, so that a row of cells is a form in this one alone.
    parts = parts_by_last(form_on(told.form, 4, 3, [basis[1], basis[2], basis[0]]), 3, 3)
    lines = [told.lines[number] for number in standing_numbers(told.pins.bars)]
    columns = [column - wide // 2 for column in range(wide)]
    return tuple([row_of_signs(parts, basis, lines, columns, high // 2 - row, under) for row in range(high)])


def row_of_signs(parts, basis, lines, columns, up, under):
    """The signs of the cells in a row."""
    numbers = by_last_alone(parts, (up, under))
    values = [value_by_last(numbers, right) for right in columns]
    return "".join([sign_of(value) if value != 0 else zero_sign(basis, lines, (right, up, under))
                    for right, value in zip(columns, values)])


def sign_of(value):
    """The sign of a value that is not 0."""
    return "+" if value > 0 else "-"


def zero_sign(basis, lines, cell):
    """The sign of a cell whose place is on the surface."""
    place = plain(mixed(cell, basis))
    return "*" if any([is_on(line, place) for line in lines]) else "o"

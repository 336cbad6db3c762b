"""Arguments as they are given: checked, and told as the package keeps them.

Each function raises the error that is told for its argument, with the
parameter's name as its part.
"""

from sixpins.checks import is_integer_rows, is_integers, is_list, is_row, is_rows, is_table, is_within
from sixpins.echelon import pair_basis
from sixpins.errors import BadForm, BadName, BadNumber, BadRow, BadTable
from sixpins.integers import leading_place, plain
from sixpins.powers import CUBIC_MONOMIALS
from sixpins.roster import is_name, number_of


def given_integer(value, least, most, part):
    """An integer from least to most."""
    if not is_within(value, least, most):
        raise BadNumber(part)
    return value


def given_pin(value, part):
    """The number of a pin."""
    return given_integer(value, 0, 5, part)


def given_row(value, many, part):
    """The plain row of a row of just so many integers."""
    if not is_row(value, many):
        raise BadRow(part)
    return plain(value)


def given_integers(value, many, part):
    """A row of just so many integers, which may be all 0."""
    if not is_integers(value, many):
        raise BadRow(part)
    return tuple(value)


def given_rows(value, least, most, many, part):
    """The plain rows of a list of least to most rows of just so many integers."""
    if not is_rows(value, least, most, many):
        raise BadRow(part)
    return tuple([plain(row) for row in value])


def given_integer_rows(value, least, most, many, part):
    """A list of least to most rows of just so many integers, any of them all 0."""
    if not is_integer_rows(value, least, most, many):
        raise BadRow(part)
    return tuple([tuple(row) for row in value])


def given_line(value, part):
    """The line of space that has two unlike places, which tell it."""
    told = given_rows(value, 2, 2, 4, part)
    one, other = told
    if one == other:
        raise BadRow(part)
    lead = leading_place(other)
    # Most lines are told as they are returned.
    return told if leading_place(one) < lead and one[lead] == 0 else pair_basis(one, other)


def given_lines(value, part):
    """The lines of space of a list, which may be empty."""
    if not is_list(value, 0, None):
        raise BadRow(part)
    return tuple([given_line(line, part) for line in value])


def given_table(value, part):
    """A table of two, three or four rows."""
    if not is_table(value):
        raise BadTable(part)
    return tuple([tuple(row) for row in value])


def given_form(value, many, part):
    """A form of just so many integers, which may be all 0."""
    if not is_integers(value, many):
        raise BadForm(part)
    return tuple(value)


def given_cubic(value, part):
    """A form of third degree in space that is not all 0."""
    if not is_row(value, CUBIC_MONOMIALS):
        raise BadForm(part)
    return tuple(value)


def given_name(value, part):
    """The number of a name."""
    if not is_name(value):
        raise BadName(part)
    return number_of(value)

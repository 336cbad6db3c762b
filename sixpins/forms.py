"""Forms: monomials, values, products, slopes, and forms on rows, lines and planes."""

from sixpins.cubics import lies_by, on_two_by
from sixpins.echelon import kernel_of
from sixpins.given import given_form, given_integer, given_integer_rows, given_integers, given_line, given_row
from sixpins.powers import (CUBIC_MONOMIALS, form_on, many_monomials, monomials_of, product_form, slope_form,
                            value_at)
from sixpins.written import space_slopes

LEAST_LETTERS = 2
MOST_LETTERS = 4
MOST_DEGREE = 12
HALF_DEGREE = 6


def given_letters(letters):
    """A number of letters."""
    return given_integer(letters, LEAST_LETTERS, MOST_LETTERS, "letters")


def monomials(letters, degree):
    """The tuple of the monomials of so many letters and this degree, in their order."""
    given_letters(letters)
    given_integer(degree, 0, MOST_DEGREE, "degree")
    return tuple(monomials_of(letters, degree))


def value_of(form, letters, degree, row):
    """The value of a form at a row, which may be all 0."""
    given_letters(letters)
    given_integer(degree, 0, MOST_DEGREE, "degree")
    told = given_form(form, many_monomials(letters, degree), "form")
    return value_at(told, degree, given_integers(row, letters, "row"))


def form_product(one, other, letters, degree, further):
    """The product of a form of the degree `degree` and one of the degree `further`."""
    given_letters(letters)
    given_integer(degree, 0, HALF_DEGREE, "degree")
    given_integer(further, 0, HALF_DEGREE, "further")
    first = given_form(one, many_monomials(letters, degree), "one")
    second = given_form(other, many_monomials(letters, further), "other")
    return product_form(first, second, letters, degree, further)


def slope_of(form, letters, degree, letter):
    """The slope of a form by the letter of this number."""
    given_letters(letters)
    given_integer(degree, 1, MOST_DEGREE, "degree")
    given_integer(letter, 0, letters - 1, "letter")
    told = given_form(form, many_monomials(letters, degree), "form")
    return slope_form(told, letters, degree, letter)


def pulled_form(form, letters, degree, rows):
    """The form on two to four rows, which may be all 0."""
    given_letters(letters)
    given_integer(degree, 0, HALF_DEGREE, "degree")
    told = given_form(form, many_monomials(letters, degree), "form")
    return form_on(told, letters, degree, given_integer_rows(rows, 2, 4, letters, "rows"))


def on_line_of(form, line):
    """A form of third degree in space on the two rows of a line."""
    told = given_form(form, CUBIC_MONOMIALS, "form")
    one, other = given_line(line, "line")
    return on_two_by(space_slopes(told), one, other)


def lies(form, line):
    """Whether a form of third degree in space lies on a line."""
    told = given_form(form, CUBIC_MONOMIALS, "form")
    return lies_by(space_slopes(told), given_line(line, "line"))


def on_plane_of(form, plane):
    """A form of third degree in space on the three rows of the basis of a plane."""
    told = given_form(form, CUBIC_MONOMIALS, "form")
    return form_on(told, 4, 3, kernel_of([given_row(plane, 4, "plane")], 4))

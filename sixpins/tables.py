"""Tables: what they lead, their products and determinants, and what undoes them."""

from sixpins.errors import Misfit
from sixpins.given import given_row, given_table
from sixpins.integers import crossing, dot, leading_place, plain_or_none, plain_together
from sixpins.written import space_crossing


def led(table, row):
    """The plain row of the row to which the table leads this one; None for zeros alone."""
    told = given_table(table, "table")
    return plain_or_none(image_of(told, given_row(row, len(told), "row")))


def multiplied(one, other):
    """The table that leads each row to where one leads the row to which other leads it."""
    first = given_table(one, "one")
    second = given_table(other, "other")
    if len(first) != len(second):
        raise Misfit("other")
    return product_of(first, second)


def determinant(table):
    """The determinant of a table, an integer."""
    return determinant_of(given_table(table, "table"))


def plain_table(table):
    """The plain table that is a number times this one; None for zeros alone."""
    return plain_table_of(given_table(table, "table"))


def undone(table):
    """The plain table that leads back what the table led; None if its determinant is 0."""
    told = given_table(table, "table")
    if determinant_of(told) == 0:
        return None
    return inverse_of(told)


def image_of(table, row):
    """The row to which the table leads the row, just as it comes."""
    return tuple([dot(mine, row) for mine in table])


def product_of(one, other):
    """The product of two tables of equally many rows."""
    columns = list(zip(*other))
    return tuple([image_of(columns, row) for row in one])


def plain_table_of(table):
    """The plain table that is a number times this one; None for zeros alone."""
    if all([leading_place(row) is None for row in table]):
        return None
    return plain_together(table)


def determinant_of(table):
    """The determinant of a table of two, three or four rows."""
    return dot(table[0], crossings_of(table)[0])


def crossings_of(table):
    """For each row of a table the row that, times it, is the determinant, and 0 times each other one."""
    if len(table) == 2:
        (a, b), (c, d) = table
        return (d, -c), (-b, a)
    if len(table) == 3:
        one, other, third = table
        return crossing(other, third), crossing(third, one), crossing(one, other)
    one, other, third, last = table
    # Two rows exchanged give the determinant the other sign.
    return (space_crossing(other, third, last), space_crossing(third, one, last),
            space_crossing(one, other, last), space_crossing(other, one, third))


def inverse_of(table):
    """The plain table that leads back what the table led; its determinant is not 0."""
    rows = crossings_of(table)
    return plain_table_of(tuple(zip(*rows)))

"""What a surface is made of: relations, matrix and form of four curves, without any checks."""

from math import lcm

from sixpins.echelon import kernel_of
from sixpins.integers import leading_place, mixed, plain
from sixpins.powers import form_on, product_form
from sixpins.written import plane_second_product, space_product, space_second_product

# The columns of a table of three rows, beginning with each, in turn.
TURNS = ((0, 1, 2), (1, 2, 0), (2, 0, 1))
UNITS = ((1, 0, 0), (0, 1, 0), (0, 0, 1))

# For each monomial of third degree in three letters the places of its products with them, among those of fourth.
RAISED = ((0, 1, 2), (1, 3, 4), (2, 4, 5), (3, 6, 7), (4, 7, 8), (5, 8, 9), (6, 10, 11), (7, 11, 12), (8, 12, 13),
          (9, 13, 14))


def relations_of(curves):
    """The reduced basis of the relations of four curves."""
    rows = [[0] * 12 for _ in range(15)]
    for at, curve in enumerate(curves):
        for number, raised in zip(curve, RAISED):
            for letter, place in enumerate(raised):
                rows[place][3 * at + letter] = number
    return kernel_of(rows, 12)


def matrix_of(relations):
    """The matrix of a surface with these relations."""
    return tuple([tuple([row[letter::3] for letter in range(3)]) for row in relations])


def matrix_determinant(matrix):
    """The determinant of three rows of three forms of first degree in space, a form of third degree."""
    parts = [space_second_product(matrix[0][first], corner_of(matrix, second, third))
             for first, second, third in TURNS]
    return tuple([sum(numbers) for numbers in zip(*parts)])


def corner_of(matrix, second, third):
    """The determinant of rows 1 and 2 of a matrix at these two columns."""
    along = space_product(matrix[1][second], matrix[2][third])
    across = space_product(matrix[1][third], matrix[2][second])
    return [one - other for one, other in zip(along, across)]


def form_of(curves, matrix, curve):
    """The form of pins with these curves, this matrix, and the curve of second degree through all six, or None."""
    if curve is None:
        return plain(matrix_determinant(matrix))
    return form_by_curve(curves, curve)


def form_by_curve(curves, curve):
    """The form of pins that are all on one curve of second degree, where the determinant tells nothing."""
    # Let q be the form of the curve. Then q x, q y and q z go through all pins,
    # so some forms X, Y, Z of first degree in space are n q x, n q y and n q z
    # at the curves. For each curve f, n f q(X, Y, Z) - f(X, Y, Z) is 0 there;
    # it is 0 throughout just for the curves that are q times a line.
    scale, rows = shares_of(curves, [plane_second_product(unit, curve) for unit in UNITS])
    seconds = form_on(curve, 3, 2, rows)
    told = []
    for at, cubic in enumerate(curves):
        letter = [scale if place == at else 0 for place in range(4)]
        both = (product_form(letter, seconds, 4, 1, 2), form_on(cubic, 3, 3, rows))
        told.append(mixed((1, -1), both))
    return plain([form for form in told if leading_place(form) is not None][0])


def shares_of(curves, forms):
    """A scale, and a row for each curve: scale times form k is the sum of the curves, each times place k of its row."""
    leads = [leading_place(curve) for curve in curves]
    scale = 1
    for curve, lead in zip(curves, leads):
        scale = lcm(scale, curve[lead])
    rows = [tuple([form[lead] * (scale // curve[lead]) for form in forms]) for curve, lead in zip(curves, leads)]
    return scale, rows

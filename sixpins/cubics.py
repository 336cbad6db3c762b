"""Forms of third degree in space along lines and planes, without any checks."""

from sixpins.integers import crossing, leading_place, plain
from sixpins.written import (pair_product, plane_dot, plane_product, plane_second_product, space_between, space_dot,
                             space_second_dot, space_squares)

# The places of the monomials of second degree in which letter k and letter l stand.
TWO_LETTERS = ((0, 1, 2, 3), (1, 4, 5, 6), (2, 5, 7, 8), (3, 6, 8, 9))

# The places of the products of the monomials of second degree and the letters, among those of third degree.
RAISED = ((0, 1, 2, 3), (1, 4, 5, 6), (2, 5, 7, 8), (3, 6, 8, 9), (4, 10, 11, 12), (5, 11, 13, 14), (6, 12, 14, 15),
          (7, 13, 16, 17), (8, 14, 17, 18), (9, 15, 18, 19))

# For each letter the places of the monomials of third degree with its power 0, 1, 2 and 3, as the others stand there.
POWERS = (((10, 11, 12, 13, 14, 15, 16, 17, 18, 19), (4, 5, 6, 7, 8, 9), (1, 2, 3), (0,)),
          ((0, 2, 3, 7, 8, 9, 16, 17, 18, 19), (1, 5, 6, 13, 14, 15), (4, 11, 12), (10,)),
          ((0, 1, 3, 4, 6, 9, 10, 12, 15, 19), (2, 5, 8, 11, 14, 18), (7, 13, 17), (16,)),
          ((0, 1, 2, 4, 5, 7, 10, 11, 13, 16), (3, 6, 8, 12, 14, 17), (9, 15, 18), (19,)))


def slopes_at_row(slopes, row):
    """The values of four forms of second degree in space at a row."""
    squares = space_squares(row)
    return [space_second_dot(slope, squares) for slope in slopes]


def on_two_by(slopes, one, other):
    """The four integers of a form with these slopes on two rows."""
    first, second = slopes_at_row(slopes, one), slopes_at_row(slopes, other)
    # Three times the value of the form is the sum of its slopes, each times its letter.
    return space_dot(first, one) // 3, space_dot(first, other), space_dot(second, one), space_dot(second, other) // 3


def lies_by(slopes, line):
    """Whether a form with these slopes is 0 on the two rows of a line throughout."""
    one, other = line
    # At s one + t other the form is told by its slopes at both rows: what
    # stands with s s s is a third of the sum of their products with one.
    first = slopes_at_row(slopes, one)
    if space_dot(first, one) != 0 or space_dot(first, other) != 0:
        return False
    second = slopes_at_row(slopes, other)
    return space_dot(second, one) == 0 and space_dot(second, other) == 0


def common_by(slopes, line):
    """The form of greatest degree that divides all of these slopes along a line, plain; () if all are 0 on it."""
    one, other = line
    values = (space_squares(one), space_between(one, other), space_squares(other))
    forms = [[space_second_dot(slope, its) for its in values] for slope in slopes]
    told = [form for form in forms if leading_place(form) is not None]
    if not told:
        return ()
    crossings = [crossing(told[0], form) for form in told[1:]]
    unlike = [row for row in crossings if leading_place(row) is not None]
    return common_of(told, unlike[0]) if unlike else plain(told[0])


def free_places(line):
    """The two places that are leading places of neither row of a reduced line, ascending."""
    leads = [leading_place(row) for row in line]
    return [place for place in range(4) if place not in leads]


def common_on(slopes, line):
    """As common_by, if the form lies on the line, which is reduced."""
    # At each place of the line the sums of the slopes, each times its integer
    # in a row of the line, are 0: so two of them tell the others.
    left, right = free_places(line)
    return common_by((slopes[left], slopes[right]), line)


def common_of(forms, row):
    """The common form of some forms of second degree in s and t; the row is orthogonal to two unlike ones of them."""
    # If they are 0 at one (s, t), then ss, st, tt are a number times this row.
    squared, between, further = row
    if squared * further != between * between or any([plane_dot(row, form) != 0 for form in forms]):
        return (1,)
    return factor_at((squared, between) if squared != 0 else (0, 1))


def factor_at(root):
    """The plain form of first degree in s and t that is 0 at this s and t."""
    return plain((root[1], -root[0]))


def fifth_by(form, slopes, line, free):
    """The fifth form of a line on the form, where the letters of these two places are free."""
    one, other = line
    left, right = free
    ahead, between, behind = space_squares(one), space_between(one, other), space_squares(other)
    # With s s, s t, t t stand forms in u and v of first degree, with s, with t
    # and alone others of second and third degree, each times w.
    ss, st, tt = [[space_second_dot(slopes[place], values) for place in free]
                  for values in (ahead, between, behind)]
    places = (TWO_LETTERS[left][left], TWO_LETTERS[left][right], TWO_LETTERS[right][right])
    s, t = [[space_dot([slope[place] for slope in slopes], row) for place in places] for row in line]
    alone = [form[RAISED[places[0]][left]]] + [form[RAISED[place][right]] for place in places]
    squares = [4 * both - its for both, its in zip(pair_product(ss, tt), pair_product(st, st))]
    upper = [first - its for first, its in zip(pair_product(st, s), pair_product(ss, t))]
    parts = (pair_product(alone, squares), pair_product(upper, t), pair_product(pair_product(tt, s), s))
    return tuple([first + second - third for first, second, third in zip(parts[0], parts[1], parts[2])])


def on_plane_by(form, plane, lead):
    """A form where the letter of the plane's leading place is told by the others, times the plane's integer there."""
    alone, once, twice, thrice = [[form[place] for place in places] for places in POWERS[lead]]
    scale = plane[lead]
    # In the plane, scale times the letter is this form in the three others.
    letter = [-number for number in plane[:lead] + plane[lead + 1:]]
    told = [thrice[0] * number + scale * its for number, its in zip(letter, twice)]
    told = [number + scale * scale * its for number, its in zip(plane_product(letter, told), once)]
    return [number + scale * scale * scale * its for number, its in zip(plane_second_product(letter, told), alone)]


def line_in_plane(line, lead):
    """The form of first degree, in the letters but one, that is 0 just on a line of a plane with this leading place."""
    one, other = line
    return crossing(one[:lead] + one[lead + 1:], other[:lead] + other[lead + 1:])


def is_cut(form, plane, lines):
    """Whether a form, in a plane, is a number, not 0, times three that are 0 just on these lines, all in the plane."""
    lead = leading_place(plane)
    one, other, third = [line_in_plane(line, lead) for line in lines]
    return is_multiple(on_plane_by(form, plane, lead), plane_second_product(one, plane_product(other, third)))


def is_multiple(row, other):
    """Whether a row is a number, not 0, times another one that is not all 0."""
    lead = leading_place(other)
    scale, under = row[lead], other[lead]
    return scale != 0 and all([number * under == its * scale for number, its in zip(row, other)])

"""Values and products of low degree, written out term by term, without any checks.

What powers does for any number of letters and any degree, this does for the
few that most answers are made of, as loops over so few terms cost more than
the terms themselves. The order of the terms is that of all monomials.
"""


def plane_dot(one, other):
    """The sum of the products of two rows of three, place by place."""
    return one[0] * other[0] + one[1] * other[1] + one[2] * other[2]


def space_dot(one, other):
    """The sum of the products of two rows of four, place by place."""
    return one[0] * other[0] + one[1] * other[1] + one[2] * other[2] + one[3] * other[3]


def plane_second_dot(one, other):
    """The sum of the products of two rows of six, place by place."""
    return (one[0] * other[0] + one[1] * other[1] + one[2] * other[2] + one[3] * other[3] + one[4] * other[4]
            + one[5] * other[5])


def space_second_dot(one, other):
    """The sum of the products of two rows of ten, place by place."""
    return (one[0] * other[0] + one[1] * other[1] + one[2] * other[2] + one[3] * other[3] + one[4] * other[4]
            + one[5] * other[5] + one[6] * other[6] + one[7] * other[7] + one[8] * other[8] + one[9] * other[9])


def plane_squares(spot):
    """The values of the monomials of second degree at a row of three."""
    x, y, z = spot
    return x * x, x * y, x * z, y * y, y * z, z * z


def plane_cubes(spot):
    """The values of the monomials of third degree at a row of three."""
    x, y, z = spot
    xx, xy, yy, yz, zz = x * x, x * y, y * y, y * z, z * z
    return xx * x, xx * y, xx * z, xy * y, xy * z, x * zz, yy * y, yy * z, yz * z, zz * z


def plane_between(one, other):
    """What stands with s t in the monomials of second degree, at s times a row of three and t times another one."""
    x, y, z = one
    u, v, w = other
    return 2 * x * u, x * v + y * u, x * w + z * u, 2 * y * v, y * w + z * v, 2 * z * w


def plane_product(one, other):
    """The product of two forms of first degree in three letters."""
    a, b, c = one
    d, e, f = other
    return a * d, a * e + b * d, a * f + c * d, b * e, b * f + c * e, c * f


def plane_second_product(first, second):
    """The product of a form of first degree in three letters and one of second degree."""
    a, b, c = first
    xx, xy, xz, yy, yz, zz = second
    return (a * xx, a * xy + b * xx, a * xz + c * xx, a * yy + b * xy, a * yz + b * xz + c * xy, a * zz + c * xz,
            b * yy, b * yz + c * yy, b * zz + c * yz, c * zz)


def plane_slopes(form):
    """The three slopes of a form of third degree in three letters."""
    return ((3 * form[0], 2 * form[1], 2 * form[2], form[3], form[4], form[5]),
            (form[1], 2 * form[3], form[4], 3 * form[6], 2 * form[7], form[8]),
            (form[2], form[4], 2 * form[5], form[7], 2 * form[8], 3 * form[9]))


def space_squares(place):
    """The values of the monomials of second degree at a row of four."""
    a, b, c, d = place
    return a * a, a * b, a * c, a * d, b * b, b * c, b * d, c * c, c * d, d * d


def space_between(one, other):
    """What stands with s t in the monomials of second degree, at s times a row of four and t times another one."""
    a, b, c, d = one
    e, f, g, h = other
    return (2 * a * e, a * f + b * e, a * g + c * e, a * h + d * e, 2 * b * f, b * g + c * f, b * h + d * f,
            2 * c * g, c * h + d * g, 2 * d * h)


def space_value(form, place):
    """The value of a form of third degree in four letters at a row."""
    # The first ten monomials have the first letter, the others do not.
    ahead = sum([number * value for number, value in zip(form, space_squares(place))])
    return place[0] * ahead + sum([number * value for number, value in zip(form[10:], plane_cubes(place[1:]))])


def space_product(one, other):
    """The product of two forms of first degree in four letters."""
    a, b, c, d = one
    e, f, g, h = other
    return (a * e, a * f + b * e, a * g + c * e, a * h + d * e, b * f, b * g + c * f, b * h + d * f,
            c * g, c * h + d * g, d * h)


def space_second_product(first, second):
    """The product of a form of first degree in four letters and one of second degree."""
    a, b, c, d = first
    aa, ab, ac, ad, bb, bc, bd, cc, cd, dd = second
    return (a * aa, a * ab + b * aa, a * ac + c * aa, a * ad + d * aa, a * bb + b * ab,
            a * bc + b * ac + c * ab, a * bd + b * ad + d * ab, a * cc + c * ac, a * cd + c * ad + d * ac,
            a * dd + d * ad, b * bb, b * bc + c * bb, b * bd + d * bb, b * cc + c * bc,
            b * cd + c * bd + d * bc, b * dd + d * bd, c * cc, c * cd + d * cc, c * dd + d * cd, d * dd)


def space_slopes(form):
    """The four slopes of a form of third degree in four letters."""
    return ((3 * form[0], 2 * form[1], 2 * form[2], 2 * form[3], form[4], form[5], form[6], form[7], form[8], form[9]),
            (form[1], 2 * form[4], form[5], form[6], 3 * form[10], 2 * form[11], 2 * form[12], form[13], form[14],
             form[15]),
            (form[2], form[5], 2 * form[7], form[8], form[11], 2 * form[13], form[14], 3 * form[16], 2 * form[17],
             form[18]),
            (form[3], form[6], form[8], 2 * form[9], form[12], form[14], 2 * form[15], form[17], 2 * form[18],
             3 * form[19]))


def space_crossing(one, other, third):
    """The row of four that is orthogonal to three rows of four, just as it comes."""
    a, b, c, d = one
    e, f, g, h = other
    ab, ac, ad, bc, bd, cd = a * f - b * e, a * g - c * e, a * h - d * e, b * g - c * f, b * h - d * f, c * h - d * g
    p, q, r, s = third
    return (bc * s - bd * r + cd * q, ad * r - ac * s - cd * p, ab * s - ad * q + bd * p, ac * q - ab * r - bc * p)


def triple_product(one, other, third):
    """The product of three forms of first degree in four letters."""
    return space_second_product(one, space_product(other, third))


def pair_product(one, other):
    """The product of two forms in two letters, each of any degree."""
    told = [0] * (len(one) + len(other) - 1)
    for at, number in enumerate(one):
        for place, its in enumerate(other):
            told[at + place] = told[at + place] + number * its
    return told

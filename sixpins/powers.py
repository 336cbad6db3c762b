"""Monomials and forms, without any checks."""

from math import comb

from sixpins.integers import dot, mixed
from sixpins.written import pair_product

# How many monomials of third degree there are in space.
CUBIC_MONOMIALS = 20


def monomials_of(letters, degree):
    """The list of the monomials of so many letters and this degree, in their order."""
    if letters == 1:
        return [(degree,)]
    return [(power,) + rest for power in range(degree, -1, -1)
            for rest in monomials_of(letters - 1, degree - power)]


def places_of(letters, degree):
    """The place of each monomial in their order."""
    return {monomial: place for place, monomial in enumerate(monomials_of(letters, degree))}


def monomial_values(row, degree):
    """The values of all monomials of a degree at a row, in their order."""
    # blocks[k] has the values of those in which the letters ahead of k do not
    # stand: of the next degree, these are letter k times each of them, and then
    # those in which letter k does not stand either.
    blocks = [[1] for _ in row]
    for _ in range(degree):
        later = []
        for letter in range(len(row) - 1, -1, -1):
            later = [row[letter] * value for value in blocks[letter]] + later
            blocks[letter] = later
    return blocks[0]


def value_at(form, degree, row):
    """The value of a form of this degree at a row."""
    return dot(form, monomial_values(row, degree))


def product_form(one, other, letters, degree, further):
    """The product of a form of the degree `degree` and one of the degree `further`."""
    if letters == 2:
        return tuple(pair_product(one, other))
    # Products of what stands with a power of the first letter, in the letters behind it.
    parts = [[0] * many_monomials(letters - 1, power) for power in range(degree + further + 1)]
    others = parts_by_first(other, letters, further)
    for at, mine in enumerate(parts_by_first(one, letters, degree)):
        for place, its in enumerate(others):
            told = product_form(mine, its, letters - 1, at, place)
            parts[at + place] = [number + more for number, more in zip(parts[at + place], told)]
    return tuple([number for part in parts for number in part])


def parts_by_first(form, letters, degree):
    """The forms, of degrees from 0 on, in the other letters that stand with the powers of the first letter."""
    told, start = [], 0
    for power in range(degree + 1):
        end = start + many_monomials(letters - 1, power)
        told.append(form[start:end])
        start = end
    return told


def many_monomials(letters, degree):
    """How many monomials of so many letters and this degree there are."""
    return comb(letters + degree - 1, degree)


def raised_places(letters, degree):
    """For each monomial of a degree the places of its products with the letters, one by one."""
    if letters == 1:
        return [[0]]
    told = []
    for rest in range(degree + 1):
        # Monomials in which letter 0 has the power degree - rest: times another
        # letter, they stand behind those in which it has a higher one.
        ahead = many_monomials(letters, rest)
        for raised in raised_places(letters - 1, rest):
            told.append([len(told)] + [ahead + place for place in raised])
    return told


def slope_form(form, letters, degree, letter):
    """The slope of a form by a letter."""
    places = raised_places(letters, degree - 1)
    lower = monomials_of(letters, degree - 1)
    return tuple([(monomial[letter] + 1) * form[raised[letter]] for monomial, raised in zip(lower, places)])


def times_first(form, first, places, many):
    """The product of a form and one of first degree, which has so many integers."""
    told = [0] * many
    for number, raised in zip(form, places):
        if number != 0:
            for scale, place in zip(first, raised):
                told[place] = told[place] + number * scale
    return told


def monomial_images(letters, degree, rows):
    """What all monomials of a degree are on the rows, in their order."""
    # As in monomial_values, but each letter is a form of first degree here.
    firsts = [[row[at] for row in rows] for at in range(letters)]
    blocks = [[[1]] for _ in firsts]
    for lower in range(degree):
        places = raised_places(len(rows), lower)
        many = many_monomials(len(rows), lower + 1)
        later = []
        for letter in range(letters - 1, -1, -1):
            later = [times_first(form, firsts[letter], places, many) for form in blocks[letter]] + later
            blocks[letter] = later
    return blocks[0]


def form_on(form, letters, degree, rows):
    """The form on the rows."""
    return mixed(form, monomial_images(letters, degree, rows))


def parts_by_last(form, letters, degree):
    """For each power of the last letter, from 0, the form of the other letters that stands with it."""
    parts = [[] for _ in range(degree + 1)]
    for monomial, number in zip(monomials_of(letters, degree), form):
        parts[monomial[-1]].append(number)
    return parts


def by_last_alone(parts, row):
    """The integers of a form in its last letter alone, from the power 0 on, where the others are as in the row."""
    top = len(parts) - 1
    return [dot(part, monomial_values(row, top - power)) for power, part in enumerate(parts)]


def value_by_last(numbers, last):
    """The value of a form of third degree in one letter, told from the power 0 on."""
    return ((numbers[3] * last + numbers[2]) * last + numbers[1]) * last + numbers[0]

"""The 27 names: their classes, and trios, sixes and arrays of them."""

from sixpins.checks import is_integers, is_list
from sixpins.errors import BadNames, BadRow
from sixpins.given import given_name
from sixpins.roster import (CLASSES, MANY_IN_SIX, MANY_NAMES, NAMES, all_trios_of_numbers, are_six, arrays_at,
                            first_way, is_array, is_name, met, names_of, number_of, number_of_class, pairs_beside,
                            partner_of_numbers, sixes_from, trios_with)


def all_names():
    """The tuple of the 27 names, in their order."""
    return NAMES


def class_of(name):
    """The curve class of a name."""
    return CLASSES[given_name(name, "name")]


def name_of(row):
    """The name whose curve class this is."""
    number = number_of_class(tuple(row)) if is_integers(row, 7) else None
    if number is None:
        raise BadRow("row")
    return NAMES[number]


def times_met(one, other):
    """How often the classes of two names meet."""
    first = given_name(one, "one")
    return met(first, given_name(other, "other"))


def all_trios():
    """The ascending tuple of the 45 trios."""
    return tuple([names_of(trio) for trio in all_trios_of_numbers()])


def trios_of(name):
    """The ascending tuple of the five trios with this name."""
    return tuple([names_of(trio) for trio in trios_with(given_name(name, "name"))])


def pairs_of(name):
    """The ascending tuple of the five pairs of other names in the trios with this one."""
    return tuple([names_of(pair) for pair in pairs_beside(given_name(name, "name"))])


def is_six(value):
    """Whether any value is a list or tuple of six names that is a six, in any order."""
    if not is_names(value, MANY_IN_SIX):
        return False
    return are_six([number_of(name) for name in value])


def is_names(value, many):
    """Whether any value is a list or tuple of just so many names."""
    return is_list(value, many, many) and all([is_name(name) for name in value])


def given_six(value, part):
    """The list of the numbers of a six, in its order."""
    if not is_six(value):
        raise BadNames(part)
    return [number_of(name) for name in value]


def all_sixes():
    """The ascending tuple of the 72 sixes."""
    return tuple([names_of(six) for six in sixes_from((), list(range(MANY_NAMES)))])


def partner_of(six):
    """The partner of a six, in the order that goes with the one in which the six is told."""
    return names_of(partner_of_numbers(given_six(six, "six")))


def all_arrays():
    """The ascending tuple of the 120 arrays, each told in the first of its ways."""
    told = [array for corner in range(MANY_NAMES) for array in arrays_at(corner)]
    return tuple([array_names(array) for array in sorted(told)])


def array_names(rows):
    """An array of numbers, as names."""
    return tuple([names_of(row) for row in rows])


def array_of(rows):
    """The array, told in the first of its ways."""
    return array_names(given_array(rows, "rows"))


def given_array(value, part):
    """An array that is told in any of its ways, as numbers, in the first of them."""
    if not is_list(value, 3, 3) or not all([is_names(row, 3) for row in value]):
        raise BadNames(part)
    numbers = [tuple([number_of(name) for name in row]) for row in value]
    if not is_array(numbers):
        raise BadNames(part)
    return first_way(numbers)

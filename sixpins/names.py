"""The 27 names: their classes, and trios, sixes and arrays of them."""

from sixpins.checks import is_integers, is_list
from sixpins.errors import BadNames, BadRow
from sixpins.given import given_name
from sixpins.lists import ARRAYS, SIXES, TRIOS
from sixpins.roster import (CLASSES, MANY_IN_SIX, NAMES, PAIRS_BESIDE, are_six, first_way, is_array, is_name, met,
                            names_of, number_of, number_of_class, partner_of_numbers)


def all_names():
    """The tuple of the 27 names, in their order."""
    return NAMES


def class_of(name):
    """The curve class of a name."""
    return CLASSES[given_name(name, "name")]


def name_of(row):
    """The name whose curve class this is."""
    number = number_of_class(tuple(row)) if is_integers(row, 7) else None
    if number is None:
        raise BadRow("row")
    return NAMES[number]


def times_met(one, other):
    """How often the classes of two names meet."""
    first = given_name(one, "one")
    return met(first, given_name(other, "other"))


def all_trios():
    """The ascending tuple of the 45 trios."""
    return TRIOS


def trios_of(name):
    """The ascending tuple of the five trios with this name."""
    given_name(name, "name")
    return tuple([trio for trio in TRIOS if name in trio])


def pairs_of(name):
    """The ascending tuple of the five pairs of other names in the trios with this one."""
    return tuple([names_of(pair) for pair in PAIRS_BESIDE[given_name(name, "name")]])


def is_six(value):
    """Whether any value is a list or tuple of six names that is a six, in any order."""
    if not is_names(value, MANY_IN_SIX):
        return False
    return are_six([number_of(name) for name in value])


def is_names(value, many):
    """Whether any value is a list or tuple of just so many names."""
    return is_list(value, many, many) and all([is_name(name) for name in value])


def given_six(value, part):
    """The list of the numbers of a six, in its order."""
    if not is_six(value):
        raise BadNames(part)
    return [number_of(name) for name in value]


def all_sixes():
    """The ascending tuple of the 72 sixes."""
    return SIXES


def partner_of(six):
    """The partner of a six, in the order that goes with the one in which the six is told."""
    return names_of(partner_of_numbers(given_six(six, "six")))


def all_arrays():
    """The ascending tuple of the 120 arrays, each told in the first of its ways."""
    return ARRAYS


def array_of(rows):
    """The array, told in the first of its ways."""
    return tuple([names_of(row) for row in given_array(rows, "rows")])


def given_array(value, part):
    """An array that is told in any of its ways, as numbers, in the first of them."""
    if not is_list(value, 3, 3) or not all([is_names(row, 3) for row in value]):
        raise BadNames(part)
    numbers = [tuple([number_of(name) for name in row]) for row in value]
    if not is_array(numbers):
        raise BadNames(part)
    return first_way(numbers)

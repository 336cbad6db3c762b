"""Whether papers show a form as three planes less three planes."""

from math import gcd

from sixpins.checks import is_integer, is_list, is_plain, is_within
from sixpins.given import given_cubic
from sixpins.ways import Way
from sixpins.written import triple_product


def shows_way(form, value):
    """Whether any value is a Way that shows the form."""
    told = given_cubic(form, "form")
    if not isinstance(value, Way) or not has_way_parts(value):
        return False
    if sorted(value.first) == sorted(value.second):
        return False
    one, other = [triple_product(three[0], three[1], three[2]) for three in (value.first, value.second)]
    return all([value.scale * number == value.one * first + value.other * second
                for number, first, second in zip(told, one, other)])


def has_way_parts(way):
    """Whether the parts of a Way are of the kinds that are told, the integers in lowest terms."""
    if not is_three_planes(way.first) or not is_three_planes(way.second):
        return False
    if not is_within(way.scale, 1, None) or not is_integer(way.one) or not is_integer(way.other):
        return False
    return way.one != 0 and way.other != 0 and gcd(way.scale, way.one, way.other) == 1


def is_three_planes(value):
    """Whether any value is a list of three planes, as they are returned."""
    return is_list(value, 3, 3) and all([is_plain(plane, 4) for plane in value])

"""Exact numbers, told as pairs."""

from math import gcd

from sixpins.checks import is_integer
from sixpins.errors import BadNumber


def number(top, under=1):
    """The fraction top divided by under, as a pair in lowest terms."""
    if not is_integer(top):
        raise BadNumber("top")
    if not is_integer(under) or under == 0:
        raise BadNumber("under")
    shared = gcd(top, under)
    if under < 0:
        shared = -shared
    return top // shared, under // shared

"""Whether papers show that a prime is good for pins, or that it is not."""

from sixpins.checks import is_integers, is_within
from sixpins.curves import curves
from sixpins.integers import mixed
from sixpins.pins import given_pins
from sixpins.primes import Clash, Crowd, Extra, Good, Thin, clashes, extras, fours_of, judged_by, threes_modulo
from sixpins.residues import rest_or_none
from sixpins.rests import PRIMES, given_prime


def shows_prime(pins, prime, value):
    """Whether any value is a right Good, Clash, Crowd, Extra or Thin of the pins and the prime."""
    told = given_pins(pins, "pins")
    given_prime(prime, PRIMES[-1])
    if isinstance(value, Good):
        return is_within(value.places, 0, None) and judged_by(told, prime) == value
    if isinstance(value, Clash):
        return is_integers((value.one, value.other), 2) and (value.one, value.other) in clashes(told, prime)
    if isinstance(value, Crowd):
        return is_integers(value.four, 4) and value.four in fours_of(threes_modulo(told, prime))
    if isinstance(value, Extra):
        return is_integers(value.bar, 7) and value.bar in extras(told, prime, threes_modulo(told, prime))
    return isinstance(value, Thin) and is_thin(told, prime, value.row)


def is_thin(pins, prime, row):
    """Whether any value is a rest row by which the curves add up to what the prime divides."""
    if not is_integers(row, 4) or rest_or_none(row, prime) != row:
        return False
    return all([number % prime == 0 for number in mixed(row, curves(pins))])

"""Rests modulo a prime: rows, lines, places, and the lines on which a form is 0."""

from sixpins.checks import is_integer, is_list, is_row
from sixpins.cubics import slopes_at_row
from sixpins.errors import BadNumber, BadRow, Misfit
from sixpins.given import given_form, given_line
from sixpins.integers import leading_place, mixed
from sixpins.powers import CUBIC_MONOMIALS, by_last_alone, parts_by_last, value_by_last
from sixpins.residues import all_places, pair_of_rests, reduced_by, rest_or_none
from sixpins.rows import MOST_INTEGERS
from sixpins.written import space_dot, space_slopes, space_value

PRIMES = (2, 3, 5, 7, 11, 13, 17, 19, 23, 29, 31)
MOST_FOR_PLACES = 13
MOST_FOR_LINES = 7


def rest_row(row, prime):
    """The rest row of a row of 1 to 30 integers."""
    if not is_list(row, 1, MOST_INTEGERS) or not is_row(row, len(row)):
        raise BadRow("row")
    rest = rest_or_none(row, given_prime(prime, PRIMES[-1]))
    if rest is None:
        raise Misfit("row")
    return rest


def rest_line(line, prime):
    """The rest of a line: the line modulo the prime that has the rest rows of all its places."""
    one, other = given_line(line, "line")
    return line_rest(one, other, given_prime(prime, PRIMES[-1]))


def count_places(form, prime):
    """How many places modulo the prime have a value of the form that the prime divides."""
    told = given_form(form, CUBIC_MONOMIALS, "form")
    given_prime(prime, MOST_FOR_PLACES)
    parts = parts_by_last(reduced_by(told, prime), 4, 3)
    # The last place has zeros ahead; any last integer may stand behind other rest rows of three.
    many = 1 if parts[3] == [0] else 0
    for ahead in all_places(prime, 3):
        numbers = by_last_alone(parts, ahead)
        many = many + len([last for last in range(prime) if value_by_last(numbers, last) % prime == 0])
    return many


def lines_modulo(form, prime):
    """The ascending tuple of the lines modulo the prime on which the form is 0."""
    told = given_form(form, CUBIC_MONOMIALS, "form")
    given_prime(prime, MOST_FOR_LINES)
    left = reduced_by(told, prime)
    zeros = [place for place in all_places(prime, 4) if space_value(left, place) % prime == 0]
    of_form = space_slopes(left)
    slopes = [slopes_at_row(of_form, place) for place in zeros]
    lines = []
    for at, one in enumerate(zeros):
        # Rest rows ascend as their leading places descend.
        for place in range(at):
            other = zeros[place]
            if one[leading_place(other)] == 0 and is_zero_between(one, other, slopes[at], slopes[place], prime):
                lines.append((one, other))
    return tuple(lines)


def given_prime(value, most):
    """A prime up to a bound, passed as the parameter `prime`."""
    if not is_integer(value) or value not in PRIMES or value > most:
        raise BadNumber("prime")
    return value


def line_rest(one, other, prime):
    """The rest of the line of two unlike plain rows."""
    rest = pair_of_rests(one, other, prime)
    while rest is None:
        # Some sum of both rows is the prime times a row of the line, which takes the place of the other one.
        lead = leading_place([number % prime for number in one])
        times = [number for number in range(prime) if (other[lead] - number * one[lead]) % prime == 0][0]
        other = [number // prime for number in mixed((1, -times), (other, one))]
        rest = pair_of_rests(one, other, prime)
    return rest


def is_zero_between(one, other, first, second, prime):
    """Whether a form that is 0 modulo a prime at two rows, with these slopes, is so with all four integers on them."""
    # At s one + t other, these are what stands with s s t and with s t t.
    return space_dot(first, other) % prime == 0 and space_dot(second, one) % prime == 0

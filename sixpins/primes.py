"""Which primes are good for pins: those modulo which their surface is as it is."""

from sixpins.classes import BENT, FOURS, PAIRS, THREES, line_class
from sixpins.curves import curves
from sixpins.integers import crossing, dot
from sixpins.papers import Denial, Paper
from sixpins.pins import given_pins
from sixpins.residues import dependence_by, reduced_by, rest_or_none
from sixpins.rests import PRIMES, given_prime
from sixpins.written import plane_squares


class Good(Paper):
    """The prime is good for the pins; so many places modulo it have a value that it divides."""

    def __init__(self, places):
        Paper.__init__(self, "good", places)
        self.places = self.parts[0]


class Clash(Denial):
    """Two pins have one rest row."""

    def __init__(self, one, other):
        Denial.__init__(self, "clash", one, other)
        self.one = self.parts[0]
        self.other = self.parts[1]


class Crowd(Denial):
    """Four pins are in a line modulo the prime."""

    def __init__(self, four):
        Denial.__init__(self, "crowd", four)
        self.four = self.parts[0]


class Extra(Denial):
    """A bar modulo the prime is no bar of the pins."""

    def __init__(self, bar):
        Denial.__init__(self, "extra", bar)
        self.bar = self.parts[0]


class Thin(Denial):
    """The four curves are not independent modulo the prime."""

    def __init__(self, row):
        Denial.__init__(self, "thin", row)
        self.row = self.parts[0]


def judged_prime(pins, prime):
    """Whether a prime is good for pins: a Good, a Clash, a Crowd, an Extra or a Thin."""
    told = given_pins(pins, "pins")
    return judged_by(told, given_prime(prime, PRIMES[-1]))


def judged_by(pins, prime):
    """Whether a prime is good for pins, without any checks."""
    alike = clashes(pins, prime)
    if alike:
        one, other = alike[0]
        return Clash(one, other)
    threes = threes_modulo(pins, prime)
    fours = fours_of(threes)
    if fours:
        return Crowd(fours[0])
    further = extras(pins, prime, threes)
    if further:
        return Extra(further[0])
    row = dependence_by(curves(pins), prime)
    if row is not None:
        return Thin(row)
    return Good(prime * prime + (7 - len(pins.bars)) * prime + 1)


def clashes(pins, prime):
    """The ascending list of the pairs of numbers of pins whose rest rows are equal."""
    rests = [rest_or_none(spot, prime) for spot in pins.spots]
    return [pair for pair in PAIRS if rests[pair[0]] == rests[pair[1]]]


def threes_modulo(pins, prime):
    """The ascending list of the threes of numbers of pins that are in a line modulo the prime."""
    rests = [reduced_by(spot, prime) for spot in pins.spots]
    return [three for three in THREES
            if dot(crossing(rests[three[0]], rests[three[1]]), rests[three[2]]) % prime == 0]


def fours_of(threes):
    """The ascending list of the fours of numbers of which each three is among these."""
    return [four for four in FOURS
            if all([four[:at] + four[at + 1:] in threes for at in range(4)])]


def extras(pins, prime, threes):
    """The ascending list of the bars modulo the prime that are no bars of the pins."""
    bars = [line_class(three) for three in threes]
    if not threes and is_bent_modulo(pins, prime):
        bars = [BENT]
    return sorted([bar for bar in bars if bar not in pins.bars])


def is_bent_modulo(pins, prime):
    """Whether all six pins are on a curve of second degree modulo the prime."""
    return dependence_by([plane_squares(reduced_by(spot, prime)) for spot in pins.spots], prime) is not None

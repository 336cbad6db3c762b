"""Primes that are good for pins, and what shows whether one is."""

import unittest
from itertools import combinations, product

from sixpins.check_primes import shows_prime
from sixpins.curves import curves
from sixpins.errors import BadNumber, BadPins
from sixpins.lines import told_lines
from sixpins.papers import Denial, Paper
from sixpins.pins import InLine, Pins
from sixpins.primes import Clash, Crowd, Extra, Good, Thin, judged_prime
from sixpins.rests import count_places, lines_modulo, rest_line
from sixpins.surface import Surface
from tests.samples import CORNERS, NO_OBJECTS, SURFACES, drawn_pins, shuffled
from tests.support import Case, ODD, Source, determinant_by_hand, listed, sum_of
from tests.test_pins import BENT, CASES, FOUR, SMOOTH
from tests.test_rests import NO_PRIMES, PRIMES, places_by_hand, rest_by_hand

THIN = Pins([(1, 1, 1), (1, -3, 1), (4, 0, -1), (4, 0, 3), (0, 0, 1), (2, 4, -3)])
CROWDED = Pins([(1, 0, 0), (0, 1, 0), (1, 1, 0), (0, 0, 1), (1, 2, 5), (1, 3, 1)])
EXTRA = Pins([(1, 0, 0), (0, 1, 0), (0, 0, 1), (1, 1, 1), (1, 2, 4), (1, 3, 8)])
PAPERS = (Good(7), Clash(0, 1), Crowd((0, 1, 2, 3)), Extra(BENT), Thin((1, 0, 0, 0)))


def clashes(pins, prime):
    """The pairs of pins with one rest row."""
    rests = [rest_by_hand(spot, prime) for spot in pins.spots]
    return [(one, other) for one, other in combinations(range(6), 2) if rests[one] == rests[other]]


def threes(pins, prime):
    """The threes of pins in a line modulo the prime."""
    return [three for three in combinations(range(6), 3)
            if determinant_by_hand([pins.spots[pin] for pin in three]) % prime == 0]


def crowds(pins, prime):
    """The fours of pins in a line modulo the prime."""
    lined = threes(pins, prime)
    return [four for four in combinations(range(6), 4) if all(three in lined for three in combinations(four, 3))]


def extras(pins, prime):
    """The bars modulo the prime that are no bars of the pins, ascending."""
    lined = threes(pins, prime)
    bars = [(1, *(int(pin in three) for pin in range(6))) for three in lined]
    rows = [(x * x, x * y, x * z, y * y, y * z, z * z) for x, y, z in pins.spots]
    if not lined and determinant_by_hand(rows) % prime == 0:
        bars.append(BENT)
    return sorted(bar for bar in bars if bar not in pins.bars)


def thins(pins, prime):
    """The rest rows by which the curves add up to what the prime divides; for small primes, by going through all."""
    told = curves(pins)
    return [row for row in places_by_hand(prime) if all(number % prime == 0 for number in sum_of(row, told))]


class JudgedTest(Case):

    def check(self, pins, prime):
        """What is told of a prime, by all four kinds of denials; it is returned."""
        told = judged_prime(pins, prime)
        lots = (clashes(pins, prime), [(four,) for four in crowds(pins, prime)], [(bar,) for bar in extras(pins, prime)])
        first = [made(*parts[0]) for made, parts in zip((Clash, Crowd, Extra), lots) if parts]
        if first:
            self.assertEqual(told, first[0])
            self.same(told.parts, first[0].parts)
        elif prime <= 5 or isinstance(told, Thin):
            rows = thins(pins, prime) if prime <= 7 else [told.row]
            if rows:
                self.assertIn(told, [Thin(row) for row in rows])
                self.assertTrue(all(number % prime == 0 for number in sum_of(told.row, curves(pins))))
                self.assertEqual(rest_by_hand(told.row, prime), told.row)
            else:
                self.assertIs(type(told), Good)
        if isinstance(told, Good):
            self.same(told.places, prime * prime + (7 - len(pins.bars)) * prime + 1)
            self.assertIs(bool(told), True)
        else:
            self.assertIs(bool(told), False)
        self.assertIs(shows_prime(pins, prime, told), True)
        self.assertEqual(judged_prime(Pins(listed(pins.spots)), prime), told)
        return told

    def test_the_seven_cases(self):
        words = {}
        for name, surface in SURFACES:
            for prime in PRIMES:
                with self.subTest(name, prime=prime):
                    told = self.check(surface.pins, prime)
                    words.setdefault(told.word, []).append((name, prime))
        self.assertGreater(len(words["good"]), 30)

    def test_other_orders_rows_and_changes(self):
        for name, spots in shuffled(421):
            for prime in (2, 3, 7, 31):
                with self.subTest(name, prime=prime):
                    self.check(Pins(spots), prime)

    def test_drawn_pins(self):
        source, words = Source(422), {}
        for at in range(60):
            spots = [source.nonzero(3, 6) for _ in range(6)]
            try:
                pins = Pins(spots)
            except ValueError:
                continue
            for prime in (2, 3, 5, 7, 11):
                told = self.check(pins, prime)
                words[told.word] = words.get(told.word, 0) + 1
        self.assertTrue(all(words.get(word) for word in ("good", "clash", "crowd", "extra")), words)
        self.check(drawn_pins(14), 31)

    def test_each_kind(self):
        self.assertEqual(self.check(THIN, 7).word, "thin")
        self.assertEqual(self.check(CROWDED, 5), Crowd((0, 1, 2, 4)))
        self.assertEqual(self.check(EXTRA, 2), Clash(0, 4))
        self.assertEqual(self.check(EXTRA, 3), Extra((1, 0, 1, 0, 1, 1, 0)))
        bent = Pins(CASES[2][1])
        self.assertEqual([self.check(bent, prime).parts for prime in (3, 5, 7, 11)], [(0, 3), (0, 5), (92,), (188,)])
        for prime in (2, 3, 5):
            self.assertEqual(self.check(Pins(FOUR), prime), Good(prime * prime + 3 * prime + 1))

    def test_the_bent_curve_modulo_a_prime(self):
        # All six pins on x z = y y modulo 11, no three in a line modulo it, but on no such curve.
        pins = Pins([(1, 0, 0), (1, 1, 1), (1, 2, 4), (1, 3, 9), (1, 4, 16), (1, 5, 36)])
        self.assertIsNone(pins.curve)
        self.assertEqual(self.check(pins, 11), Extra(BENT))

    def test_which_comes_first(self):
        # Pins 0 and 4 clash modulo 2, and so do others; four of them are in a line, and there are further bars.
        pins = Pins([(1, 0, 0), (0, 1, 0), (1, 1, 0), (0, 0, 1), (3, 2, 2), (3, 1, 2)])
        self.assertEqual(self.check(pins, 2), Clash(0, 4))
        self.assertTrue(crowds(pins, 2))
        self.assertIs(shows_prime(pins, 2, Crowd(crowds(pins, 2)[0])), True)
        self.assertTrue(extras(CROWDED, 5))
        self.assertIs(shows_prime(CROWDED, 5, Extra(extras(CROWDED, 5)[-1])), True)

    def test_pins_without_bars_have_no_good_small_prime(self):
        source = Source(423)
        for at in range(30):
            spots = [source.nonzero(3, 20) for _ in range(6)]
            try:
                pins = Pins(spots)
            except ValueError:
                continue
            if not pins.bars:
                for prime in (2, 3, 5):
                    self.assertIs(bool(judged_prime(pins, prime)), False)

    def test_facts_of_good_primes(self):
        for name, surface in SURFACES:
            for prime in (2, 3, 5, 7):
                if judged_prime(surface.pins, prime):
                    many = judged_prime(surface.pins, prime).places
                    self.assertEqual(count_places(surface.form, prime), many)
                    rests = [rest_line(row[1], prime) for row in told_lines(surface)]
                    self.assertEqual(tuple(sorted(rests)), lines_modulo(surface.form, prime))
                    self.assertEqual(len(set(rests)), len(rests))
            for prime in (11, 13):
                told = judged_prime(surface.pins, prime)
                if told:
                    self.assertEqual(count_places(surface.form, prime), told.places)
        self.assertEqual(count_places(Surface(THIN).form, 7), 106)

    def test_errors(self):
        for value in NO_OBJECTS + (CORNERS,):
            self.refused(BadPins, "pins", judged_prime, value, 5)
            self.refused(BadPins, "pins", judged_prime, value, value)
            self.refused(BadPins, "pins", shows_prime, value, 4, None)
        for value in NO_PRIMES:
            self.refused(BadNumber, "prime", judged_prime, CORNERS.pins, value)
            self.refused(BadNumber, "prime", shows_prime, CORNERS.pins, value, Good(7))
        self.assertEqual(judged_prime(prime=5, pins=CORNERS.pins), Good(41))


class ShowsTest(Case):

    def shown(self, pins, prime, value, whether):
        self.assertIs(shows_prime(pins, prime, value), whether)

    def test_all_papers(self):
        for pins, prime in ((THIN, 7), (CROWDED, 5), (EXTRA, 2), (EXTRA, 3), (Pins(FOUR), 5), (Pins(SMOOTH), 2)):
            for pair in product(range(-1, 7), repeat=2):
                self.shown(pins, prime, Clash(*pair), pair in clashes(pins, prime))
            for four in product(range(6), repeat=4):
                self.shown(pins, prime, Crowd(four), four in crowds(pins, prime))
            bars = [(1, *row) for row in product((0, 1), repeat=6)] + [BENT, (2, 1, 1, 1, 1, 1, 0), (0, -1, 1, 0, 0, 0, 0)]
            for bar in bars:
                self.shown(pins, prime, Extra(list(bar)), bar in extras(pins, prime))

    def test_good(self):
        for prime in (2, 3, 5, 7):
            right = prime * prime + 3 * prime + 1
            for places in (right - 1, right + 1, -right, 0, float(right), (right,), None, True, str(right)):
                self.shown(CORNERS.pins, prime, Good(places), False)
            self.shown(CORNERS.pins, prime, Good(right), True)
            for paper in PAPERS:
                self.shown(CORNERS.pins, prime, paper, False)
        self.shown(THIN, 7, Good(92), False)
        self.shown(EXTRA, 2, Good(2 * 2 + 7 * 2 + 1), False)

    def test_thin(self):
        rows = thins(THIN, 7)
        for row in places_by_hand(7):
            self.shown(THIN, 7, Thin(row), row in rows)
        row = rows[0]
        for wrong in (tuple(2 * number for number in row), tuple(number + 7 for number in row),
                      tuple(-number for number in row), (0, 0, 0, 0), row[:3], row + (0,), (7, 0, 0, 0)):
            self.shown(THIN, 7, Thin(wrong), False)
        self.shown(THIN, 7, Thin(list(row)), True)
        self.shown(THIN, 11, Thin(row), False)

    def test_values_of_all_kinds(self):
        parts = ODD + ([], (), (0, 1), [[0, 1, 2, 4]], 0, 1, -1, 10 ** 40, Good(1))
        for value in parts + (Good, judged_prime, ("clash", 0, 4), Paper("clash", 0, 4), Denial("clash", 0, 4),
                              Paper("good", 41), InLine((0, 1, 2, 4)), [Clash(0, 4)], (0, 4)):
            self.shown(EXTRA, 2, value, False)
            self.shown(CORNERS.pins, 5, value, False)
        for value in parts:
            for made in (Good, Crowd, Extra, Thin):
                self.shown(CORNERS.pins, 5, made(value), False)
                self.shown(CROWDED, 5, made(value), False)
                self.shown(THIN, 7, made([value] * 4), False)
            self.shown(EXTRA, 2, Clash(value, 4), type(value) is int and value == 0)
            self.shown(EXTRA, 2, Clash(0, value), False)
            self.shown(CROWDED, 5, Crowd((0, 1, 2, value)), False)

    def test_truths_stand_for_no_integers(self):
        self.shown(EXTRA, 2, Clash(False, 4), False)
        self.shown(EXTRA, 2, Clash(0.0, 4), False)
        self.shown(CROWDED, 5, Crowd((0, True, 2, 4)), False)
        self.shown(CROWDED, 5, Crowd((0, 1, 2.0, 4)), False)
        self.shown(EXTRA, 3, Extra((True, 0, 1, 0, 1, 1, 0)), False)
        self.shown(EXTRA, 3, Extra((1, 0, 1, 0, 1, 1, False)), False)
        row = judged_prime(THIN, 7).row
        at = [place for place, number in enumerate(row) if number == 1][0]
        self.shown(THIN, 7, Thin(row[:at] + (True,) + row[at + 1:]), False)

    def test_by_name_and_lists(self):
        self.shown(CROWDED, 5, Crowd(four=[0, 1, 2, 4]), True)
        self.assertIs(shows_prime(value=Clash(other=4, one=0), prime=2, pins=EXTRA), True)


if __name__ == "__main__":
    unittest.main()

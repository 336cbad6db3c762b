"""Strokes: a pin pushed to a spot, the moments on the way, parts of strokes, and times in order."""

import unittest
from fractions import Fraction
from itertools import combinations
from math import isqrt

from sixpins.errors import BadNumber, BadPins, BadRow, Misfit, NoPins, NoStroke
from sixpins.papers import Denial, Paper
from sixpins.pins import InLine, Pins, Same, judged_pins
from sixpins.strokes import Goes, Still, Stroke, Surd, compared_times, judged_stroke
from tests.samples import CORNERS, NO_OBJECTS, SURFACES, drawn_pins
from tests.support import (Case, ODD, Source, determinant_by_hand, listed, plain_by_hand, reduced_by_hand, scaled, sum_of,
                           value_by_hand, wrong_rows)
from tests.test_pins import BENT, CASES, FOUR, SMOOTH, bars_by_hand, changed

SMOOTH_PINS = Pins(SMOOTH)
PUSH = Stroke(SMOOTH_PINS, 0, (1, 1, 2))
SMALL = Surd((6, -15, 7), 0)

# None of these is a number.
NO_NUMBERS = ODD + ([], (), "half", (1,), (1, 2, 3), (2, 4), (0, 2), (1, 0), (1, -2), (-1, -2), (True, 2), (1, True),
                    (1.0, 2), [[1], 2], SMALL, CORNERS)

# None of these is a right Surd.
WRONG_SURDS = tuple(Surd(form, which) for form, which in (
    ((1, 0, -4), 1), ((1, 0, 2), 0), ((2, 0, -4), 0), ((-1, 0, 2), 0), ((0, 1, -2), 0), ((1, 0, 0), 0), ((1, 0, -2), 2),
    ((1, 0, -2), -1), ((1, 0, -2), True), ((1, 0, -2), None), ((1, 0, -2), (1,)), ((1, 0), 0), ((1, 0, -2, 0), 0), (None, 0),
    ((1, 0, -2.0), 0), ((True, 0, -2), 0), (7, 0), ("1,0,-2", 0), ((1, 2, 1), 0), ((4, 4, 1), 1), ((9, 0, -4), 0))) + (
    Paper("surd", (1, 0, -2), 0),)


def near(time, digits=60):
    """A fraction that is nearer than 10^-digits to a time, in size below or above."""
    if isinstance(time, int):
        return Fraction(time)
    if not isinstance(time, Surd):
        return Fraction(*time)
    a, b, c = time.form
    root = Fraction(isqrt((b * b - 4 * a * c) * 10 ** (2 * digits)), 10 ** digits)
    return (-b + (root if time.which else -root)) / (2 * a)


def pair(number):
    """A fraction as a pair."""
    return (number.numerator, number.denominator)


def spot_by_hand(pins, pin, to, time):
    """The spot on the way at a fraction."""
    one, other = pins.spots[pin], plain_by_hand(to)
    return plain_by_hand([(1 - time) * a + time * b for a, b in zip(one, other)]) if isinstance(time, int) else \
        plain_by_hand([(time.denominator - time.numerator) * a + time.numerator * b for a, b in zip(one, other)])


def put(pins, pin, spot):
    """The spots with another one in the place of a pin."""
    return tuple(spot if at == pin else its for at, its in enumerate(pins.spots))


def time_forms_by_hand(pins, pin, to):
    """The classes with their time forms, by values at the numbers 0, 1 and 2."""
    one, other = pins.spots[pin], plain_by_hand(to)
    ways = [sum_of((1 - t, t), (one, other)) for t in (0, 1, 2)]
    others = [at for at in range(6) if at != pin]
    told = []
    for two in combinations(others, 2):
        at = [determinant_by_hand([way, *(pins.spots[k] for k in two)]) for way in ways]
        form = (at[1] - at[0], at[0])
        told.append(((1, *(int(k == pin or k in two) for k in range(6))), plain_by_hand(form) if any(form) else ()))
    if not any(determinant_by_hand([pins.spots[k] for k in three]) == 0 for three in combinations(others, 3)):
        rows = [(x * x, x * y, x * z, y * y, y * z, z * z) for x, y, z in [pins.spots[k] for k in others]]
        steps = reduced_by_hand(rows, 6)
        curve = kernel_by_hand(steps)
        at = [value_by_hand(curve, 3, 2, way) for way in ways]
        twice = at[2] - 2 * at[1] + at[0]
        told.append((BENT, plain_by_hand((twice, 2 * (at[1] - at[0]) - twice, 2 * at[0]))))
    return tuple(sorted(told))


def kernel_by_hand(rows):
    """The one row of six that is orthogonal to five."""
    return [(-1) ** at * determinant_by_hand([[*row[:at], *row[at + 1:]] for row in rows]) for at in range(6)]


class TimesTest(Case):

    def check(self, one, other, expected):
        self.same(compared_times(one, other), expected)
        self.same(compared_times(other, one), -expected)

    def test_numbers(self):
        source = Source(381)
        for _ in range(60):
            one, other = [Fraction(source.within(-20, 20), source.within(1, 20)) for _ in range(2)]
            expected = (one > other) - (one < other)
            self.check(pair(one), list(pair(other)), expected)
        self.check(0, (0, 1), 0)
        self.check(3, [3, 1], 0)
        self.check(-2, (-3, 2), -1)
        self.check((10 ** 40 + 1, 10 ** 40), 1, 1)

    def surds(self, source, most):
        """A drawn right Surd."""
        while True:
            form = source.row(3, most)
            if any(form):
                form = plain_by_hand(form)
                under = form[1] ** 2 - 4 * form[0] * form[2]
                if form[0] and under > 0 and isqrt(under) ** 2 != under:
                    return Surd(form, source.below(2))

    def test_drawn_surds(self):
        source = Source(382)
        for most in (3, 20, 10 ** 15):
            for _ in range(80):
                one, other = self.surds(source, most), self.surds(source, most)
                number = pair(Fraction(source.within(-30, 30), source.within(1, 9)))
                if one != other:
                    self.check(one, other, 1 if near(one) > near(other) else -1)
                self.check(one, one, 0)
                self.check(one, Surd(list(one.form), one.which), 0)
                self.check(one, number, 1 if near(one) > near(number) else -1)
                self.check(Surd(one.form, 0), Surd(one.form, 1), -1)

    def test_surds_near_numbers(self):
        # The larger root of 2, cut off behind more and more digits, and one more in the last digit.
        two = Surd((1, 0, -2), 1)
        for digits in (1, 5, 20, 100):
            below = Fraction(isqrt(2 * 10 ** (2 * digits)), 10 ** digits)
            self.check(two, pair(below), 1)
            self.check(two, pair(below + Fraction(1, 10 ** digits)), -1)
            self.check(Surd((1, 0, -2), 0), pair(-below), -1)

    def test_surds_near_surds(self):
        two = Surd((1, 0, -2), 1)
        for digits in (1, 8, 30):
            big = 10 ** digits
            # The root of 2 + 10^-digits, and of 2 - 10^-digits.
            self.check(Surd(plain_by_hand((big, 0, -2 * big - 1)), 1), two, 1)
            self.check(Surd(plain_by_hand((big, 0, -2 * big + 1)), 1), two, -1)
            self.check(Surd(plain_by_hand((big, 0, -2 * big - 1)), 0), Surd((1, 0, -2), 0), -1)
            # Roots that differ by a number, and roots that are multiples of one.
            self.check(Surd((1, -2, -1), 1), Surd((1, 0, -2), 1), 1)
            self.check(Surd((1, 0, -8), 1), Surd((1, -2 * 1, -1), 1), 1)
        self.check(Surd((1, -2, -1), 1), Surd((1, 0, -6), 1), -1)
        self.check(Surd((1, 0, -2), 0), Surd((1, 0, -3), 0), 1)
        self.check(Surd((1, 0, -2), 0), Surd((1, 0, -3), 1), -1)
        self.check(Surd((1, 0, -2), 1), (7, 5), 1)
        self.check(Surd((1, 0, -2), 1), (3, 2), -1)
        self.check(Surd((1, -1, -1), 1), Surd((1, -3, 1), 1), -1)
        self.check(Surd((1, -1, -1), 0), Surd((1, -3, 1), 0), -1)

    def test_errors(self):
        for value in tuple(value for value in NO_NUMBERS if value is not SMALL) + WRONG_SURDS + (Surd,):
            self.refused(BadNumber, "one", compared_times, value, 0)
            self.refused(BadNumber, "one", compared_times, value, value)
            self.refused(BadNumber, "other", compared_times, SMALL, value)
        self.same(compared_times(other=SMALL, one=1), 1)


class JudgedTest(Case):

    def check(self, pins, pin, to):
        """All that is told of a stroke; it is returned."""
        told, stroke = judged_stroke(pins, pin, to), Stroke(pins, pin, to)
        self.assertIs(type(told), Goes)
        self.assertIs(bool(told), True)
        self.same(told.forms, time_forms_by_hand(pins, pin, to))
        kept = [bar for bar in pins.bars if bar[pin + 1] == 0] + [row for row, form in told.forms if form == ()]
        self.same(told.kept, tuple(sorted(kept)))
        self.check_moments(pins, pin, to, told)
        self.assertEqual((stroke.pins, stroke.pin), (pins, pin))
        self.same(stroke.to, plain_by_hand(to))
        self.same((stroke.kept, stroke.forms), (told.kept, told.forms))
        self.assertEqual(stroke.moments, told.moments)
        self.assertEqual([row for row in stroke], list(told.moments))
        self.assertEqual(len(stroke), len(told.moments))
        self.check_between(stroke)
        return stroke

    def zeros(self, form):
        """The times from 0 to 1 at which a time form is 0."""
        if len(form) == 3 and form[0]:
            under = form[1] ** 2 - 4 * form[0] * form[2]
            if under < 0:
                return []
            root = isqrt(under)
            if root * root != under:
                return [time for time in (Surd(form, 0), Surd(form, 1)) if 0 <= near(time) <= 1]
            told = {Fraction(-form[1] + way * root, 2 * form[0]) for way in (-1, 1)}
        else:
            told = {Fraction(-form[-1], form[-2])} if form and form[-2] else set()
        return [pair(time) for time in told if 0 <= time <= 1]

    def check_moments(self, pins, pin, to, told):
        times = []
        for _, form in told.forms:
            times += [time for time in self.zeros(form) if time not in times]
        times.sort(key=near)
        self.assertEqual([row[0] for row in told.moments], times)
        self.assertLessEqual(len(times), 12)
        for time, bars, why in told.moments:
            if isinstance(time, Surd):
                self.same((bars, why, told.kept), ((BENT,), None, ()))
                continue
            self.assertEqual([type(part) for part in time], [int, int])
            spots = put(pins, pin, spot_by_hand(pins, pin, to, Fraction(*time)))
            judged = judged_pins(spots)
            if judged:
                further = tuple(bar for bar in bars_by_hand(spots) if bar not in told.kept)
                self.same((bars, why), (further, None))
                self.assertNotEqual(further, ())
            else:
                self.same(bars, ())
                self.assertEqual(why, judged)
                self.assertIs(type(why), type(judged))

    def check_between(self, stroke):
        """Between the moments there are pins, with the bars that are kept."""
        times = [Fraction(0)] + [near(row[0]) for row in stroke.moments] + [Fraction(1)]
        at_moments = [row[0] for row in stroke.moments]
        between = [(one + other) / 2 for one, other in zip(times, times[1:]) if one != other]
        for time in between + [Fraction(1, 7), Fraction(3, 5), Fraction(0), Fraction(1)]:
            self.same(stroke.spot_at(pair(time)), spot_by_hand(stroke.pins, stroke.pin, stroke.to, time))
            if pair(time) not in at_moments:
                self.same(stroke.bars_at(pair(time)), stroke.kept)
                self.same(stroke.pins_at(pair(time)).bars, stroke.kept)
        for time, bars, why in stroke.moments:
            if why is None:
                self.same(stroke.bars_at(time), tuple(sorted(stroke.kept + bars)))
                if not isinstance(time, Surd):
                    self.same(stroke.pins_at(time).bars, tuple(sorted(stroke.kept + bars)))
            else:
                self.lacks_pins(why, stroke.bars_at, time)
                self.lacks_pins(why, stroke.pins_at, time)

    def lacks_pins(self, why, call, *args):
        with self.assertRaises(NoPins) as caught:
            call(*args)
        self.assertEqual(caught.exception.why, why)
        self.assertIs(type(caught.exception.why), type(why))

    def test_drawn_spots(self):
        source = Source(383)
        for name, surface in SURFACES:
            for at in range(8):
                pin, to = source.below(6), source.nonzero(3, 4 if at % 2 else 30)
                if plain_by_hand(to) != surface.pins.spots[pin]:
                    with self.subTest(name, pin=pin, to=to):
                        self.check(surface.pins, pin, to)

    def test_onto_joins_pins_and_beyond(self):
        source = Source(384)
        for name, surface in SURFACES:
            pins = surface.pins
            for pin in range(6):
                one, other = [(pin + 1 + source.below(5)) % 6 for _ in range(2)]
                for to in (pins.spots[one], sum_of((-1, 2), (pins.spots[pin], pins.spots[one])),
                           sum_of((2, -1), (pins.spots[pin], pins.spots[one])),
                           sum_of((1, 1), (pins.spots[one], pins.spots[other])),
                           sum_of((1, 3), (pins.spots[pin], pins.spots[other]))):
                    if any(to) and plain_by_hand(to) != pins.spots[pin]:
                        with self.subTest(name, pin=pin, to=to):
                            self.check(pins, pin, to)

    def test_six_digits(self):
        source = Source(385)
        pins = drawn_pins(12)
        for pin in (0, 3):
            self.check(pins, pin, source.nonzero(3, 999_999))
        self.check(Pins(changed(((9973, -8117, 6007), (4441, 7919, -3571), (-5003, 2999, 8821)), CASES[3][1])), 5,
                   source.nonzero(3, 999_999))

    def test_along_a_line_with_pins(self):
        # Pin 5 goes along its line with pins 0 and 1: the bar is kept, no moment but at those pins.
        pins = Pins(CASES[5][1])
        stroke = self.check(pins, 5, (1, 3, 0))
        self.assertIn((1, 1, 1, 0, 0, 0, 1), stroke.kept)
        through = self.check(pins, 5, (-1, 1, 0))
        self.assertEqual([type(row[2]) for row in through.moments if row[2] is not None], [Same])

    def test_across_two_lines(self):
        stroke = self.check(Pins(FOUR), 5, (1, 1, 1))
        self.assertEqual(stroke.moments[2], ((1, 2), (), InLine((0, 2, 4, 5))))
        self.assertIs(bool(stroke.moments[2][2]), False)

    def test_known(self):
        self.assertEqual(PUSH.moments, (
            ((1, 3), ((1, 1, 0, 0, 1, 0, 1),), None), ((1, 2), ((1, 1, 1, 0, 1, 0, 0),), None), (SMALL, (BENT,), None),
            ((1, 1), ((1, 1, 0, 1, 1, 0, 0), (1, 1, 1, 0, 0, 0, 1)), None)))
        self.same((PUSH.kept, PUSH.forms[0], PUSH.forms[2], PUSH.forms[10], len(PUSH.forms), len(PUSH)),
                  ((), ((1, 1, 0, 0, 0, 1, 1), (3, -5)), ((1, 1, 0, 0, 1, 1, 0), (0, 1)), (BENT, (6, -15, 7)), 11, 4))
        slide = Stroke(Pins(FOUR), 0, (1, 0, 1))
        self.same(slide.kept, ((1, 0, 0, 0, 1, 1, 1), (1, 0, 1, 1, 1, 0, 0), (1, 1, 0, 1, 0, 1, 0)))
        self.same(slide.moments, (((0, 1), ((1, 1, 1, 0, 0, 0, 1),), None),))
        self.same((slide.forms[4], len(slide.forms)), (((1, 1, 0, 1, 0, 1, 0), ()), 10))
        self.same(judged_stroke(SMOOTH_PINS, 5, (1, 4, 2)).moments, ())
        told = [row[2] for row in Stroke(Pins(CASES[2][1]), 0, (1, 2, 2))]
        self.assertEqual(told, [None, Same(0, 1), None, None, None, None])

    def test_other_rows_for_the_spot(self):
        told = Stroke(SMOOTH_PINS, 0, [-3, -3, -6])
        self.assertEqual(told, PUSH)
        self.assertEqual(told.moments, PUSH.moments)
        self.assertEqual(judged_stroke(SMOOTH_PINS, 0, (2, 2, 4)), judged_stroke(SMOOTH_PINS, 0, (1, 1, 2)))

    def test_still(self):
        for name, surface in SURFACES:
            for pin, spot in enumerate(surface.pins.spots):
                for row in (spot, scaled(spot, -3), list(spot)):
                    told = judged_stroke(surface.pins, pin, row)
                    self.assertEqual(told, Still())
                    self.assertEqual((told.word, told.parts, bool(told)), ("still", (), False))
                    with self.assertRaises(NoStroke) as caught:
                        Stroke(surface.pins, pin, row)
                    self.assertEqual(caught.exception.why, Still())

    def test_errors(self):
        for call in (judged_stroke, Stroke):
            for value in NO_OBJECTS + (CORNERS,):
                self.refused(BadPins, "pins", call, value, 0, (1, 2, 3))
                self.refused(BadPins, "pins", call, value, value, value)
            for value in ODD + (-1, 6, 10 ** 30, [], (0,), [0], (0, 1)):
                self.refused(BadNumber, "pin", call, SMOOTH_PINS, value, (1, 2, 3))
                self.refused(BadNumber, "pin", call, SMOOTH_PINS, value, value)
            for value in wrong_rows(3):
                self.refused(BadRow, "to", call, SMOOTH_PINS, 0, value)
        self.assertEqual(Stroke(to=[1, 1, 2], pin=0, pins=SMOOTH_PINS), PUSH)
        self.assertEqual(judged_stroke(to=[1, 1, 2], pin=0, pins=SMOOTH_PINS).moments, PUSH.moments)


class AtTest(Case):

    def test_known(self):
        self.same(PUSH.spot_at((1, 3)), (3, 1, 2))
        self.same(PUSH.pins_at(1).kind, (1, 1))
        self.same(PUSH.bars_at((1, 4)), ())
        self.same(PUSH.bars_at(SMALL), (BENT,))
        self.same(PUSH.bars_at(Surd((2, 0, -1), 1)), ())
        self.same(PUSH.bars_at([1, 3]), ((1, 1, 0, 0, 1, 0, 1),))
        self.same(PUSH.spot_at(0), (1, 0, 0))
        self.same(PUSH.spot_at(time=1), (1, 1, 2))
        self.assertEqual(PUSH.pins_at(time=0), SMOOTH_PINS)
        self.assertEqual(PUSH.pins_at((0, 1)), SMOOTH_PINS)

    def test_surds_that_are_no_moments(self):
        # At other surds from 0 to 1 the bars are the kept ones.
        for name, surface in SURFACES:
            stroke = Stroke(surface.pins, 4, (7, -5, 3))
            for form in ((2, 0, -1), (3, 0, -1), (5, -5, 1), (7, 0, -2)):
                for which in (0, 1):
                    time = Surd(form, which)
                    if 0 <= near(time) <= 1 and form not in [row for _, row in stroke.forms]:
                        self.same(stroke.bars_at(time), stroke.kept)

    def test_errors(self):
        for value in NO_NUMBERS + WRONG_SURDS + (-1, 2, (-1, 3), (4, 3), (10 ** 30 + 1, 10 ** 30)):
            self.refused(BadNumber, "time", PUSH.spot_at, value)
            self.refused(BadNumber, "time", PUSH.pins_at, value)
            if value is not SMALL:
                self.refused(BadNumber, "time", PUSH.bars_at, value)
        for form, which in (((1, 0, -2), 1), ((1, 0, -2), 0), ((6, -15, 7), 1), ((2, 0, -1), 0)):
            self.refused(BadNumber, "time", PUSH.bars_at, Surd(form, which))
            self.refused(BadNumber, "time", PUSH.pins_at, Surd(form, which))

    def test_no_pins(self):
        stroke = Stroke(Pins(FOUR), 5, (1, 1, 1))
        for call in (stroke.pins_at, stroke.bars_at):
            with self.assertRaises(NoPins) as caught:
                call((1, 2))
            self.assertEqual(caught.exception.why, InLine((0, 2, 4, 5)))
        self.same(stroke.spot_at((1, 2)), (2, 0, 1))


class PartTest(Case):

    def check(self, stroke, one, other):
        told = stroke.part(one, other)
        self.assertIs(type(told), Stroke)
        self.assertEqual((told.pins, told.pin), (stroke.pins_at(one), stroke.pin))
        self.same(told.to, stroke.spot_at(other))
        return told

    def drawn(self, source, stroke):
        """A number from 0 to 1 at which there are pins."""
        while True:
            time = Fraction(source.below(13), 12)
            if judged_pins(put(stroke.pins, stroke.pin, stroke.spot_at(pair(time)))):
                return time

    def test_parts_and_parts_of_parts(self):
        source = Source(391)
        for name, surface in SURFACES:
            stroke = Stroke(surface.pins, 1, (3, -2, 5))
            for _ in range(4):
                one, other = self.drawn(source, stroke), Fraction(source.below(13), 12)
                if one != other:
                    told = self.check(stroke, pair(one), list(pair(other)))
                    # Its spots are those of the stroke between both, all of them.
                    least, most = min(one, other), max(one, other)
                    inside = [row for row in stroke.moments if least <= near(row[0]) <= most]
                    inside = inside[::-1] if one > other else inside
                    self.assertEqual([(row[1], row[2]) for row in told.moments], [(row[1], row[2]) for row in inside])
                    self.assertEqual(told.kept, stroke.kept)
                    spots = [stroke.spot_at(row[0]) for row in inside if not isinstance(row[0], Surd)]
                    self.assertEqual([told.spot_at(row[0]) for row in told.moments if not isinstance(row[0], Surd)], spots)
                    if judged_pins(put(stroke.pins, 1, stroke.spot_at(pair(other)))):
                        self.check(told, (0, 1), (1, 2))
                        self.assertEqual(told.part(1, 0).part(1, 0), told)

    def test_back(self):
        back = self.check(PUSH, 1, 0)
        self.assertEqual([row[0] for row in back], [(0, 1), Surd((6, 3, -2), 1), (1, 2), (2, 3)])
        self.assertEqual([row[1] for row in back], [row[1] for row in PUSH][::-1])
        self.assertEqual(back.part(1, 0), PUSH)
        for row, further in zip(PUSH.moments, back.moments[::-1]):
            self.assertEqual(compared_times(row[0], further[0]), 0 if row[0] == further[0] else
                             1 if near(row[0]) > near(further[0]) else -1)
            self.assertLess(abs(near(row[0]) + near(further[0]) - 1), Fraction(1, 10 ** 50))
        for name, surface in SURFACES:
            stroke = Stroke(surface.pins, 2, (5, 3, -7))
            back = self.check(stroke, 1, 0)
            self.assertEqual([(row[1], row[2]) for row in back], [(row[1], row[2]) for row in stroke][::-1])

    def test_known(self):
        self.same(PUSH.part(0, (1, 2)).to, (2, 1, 2))
        self.assertEqual([row[0] for row in PUSH.part(other=(1, 2), one=0)], [(1, 2), (1, 1)])
        self.assertEqual(PUSH.part(0, 1), PUSH)

    def test_errors(self):
        for value in NO_NUMBERS + (-1, 2, (-1, 3), (4, 3)):
            self.refused(BadNumber, "one", PUSH.part, value, 1)
            self.refused(BadNumber, "one", PUSH.part, value, value)
            self.refused(BadNumber, "other", PUSH.part, 0, value)
        for one, other in ((0, 0), (1, (1, 1)), ((0, 1), 0), ((1, 3), [1, 3])):
            self.refused(Misfit, "other", PUSH.part, one, other)
        stroke = Stroke(Pins(FOUR), 5, (1, 1, 1))
        with self.assertRaises(NoPins) as caught:
            stroke.part((1, 2), 1)
        self.assertEqual(caught.exception.why, InLine((0, 2, 4, 5)))
        self.refused(Misfit, "other", stroke.part, (1, 2), (1, 2))
        # Where there are no pins, a part may end.
        self.assertEqual(stroke.part(0, (1, 2)).moments[-1][2], InLine((0, 2, 4, 5)))


class StrokeTest(Case):

    def test_equal(self):
        self.assertIs(PUSH == Stroke(Pins(SMOOTH), 0, (2, 2, 4)), True)
        self.assertIs(PUSH != Stroke(Pins(SMOOTH), 0, (2, 2, 4)), False)
        for value in (Stroke(Pins(SMOOTH), 1, (1, 1, 2)), Stroke(Pins(SMOOTH), 0, (1, 1, 3)),
                      Stroke(Pins(CASES[6][1]), 0, (1, 1, 2)), PUSH.moments, None, 4, True, "push",
                      judged_stroke(SMOOTH_PINS, 0, (1, 1, 2))):
            self.assertIs(PUSH == value, False)
            self.assertIs(PUSH != value, True)

    def test_what_was_passed_may_change_afterwards(self):
        to = [1, 1, 2]
        told = Stroke(SMOOTH_PINS, 0, to)
        to[0] = 5
        self.assertEqual(told, PUSH)

    def test_papers(self):
        for made, denies, fields in ((Goes, False, {"kept": [1], "forms": [[2]], "moments": [[3, [4]]]}),
                                     (Surd, False, {"form": [1, 0, -2], "which": [0]})):
            paper = made(*fields.values())
            self.assertEqual((paper.word, bool(paper)), (made.__name__.lower(), True))
            self.assertIs(isinstance(paper, Denial), denies)
            self.assertIsInstance(paper, Paper)
            self.assertEqual(made(**fields), paper)
            for name, value in fields.items():
                self.assertIs(type(getattr(paper, name)), tuple)
                self.assertEqual(listed(getattr(paper, name)), value)
        self.assertIsInstance(Still(), Denial)

    def test_facts(self):
        # A pin cannot be pushed along a line with three other pins, as it would be in a line with them.
        self.assertEqual(judged_pins([(1, 0, 0), (0, 1, 0), (1, 1, 0), (1, 2, 0), (0, 0, 1), (1, 1, 1)]), InLine((0, 1, 2, 3)))
        # The way is the one along which the first integer that is not 0 stays above 0.
        for name, surface in SURFACES:
            stroke = Stroke(surface.pins, 3, (4, -9, 2))
            for top in range(11):
                self.assertGreater([number for number in stroke.spot_at(pair(Fraction(top, 10))) if number][0], 0)


if __name__ == "__main__":
    unittest.main()

"""The surface of pins: the form, the relations, the matrix, there and back."""

import unittest

from sixpins.curves import curves
from sixpins.errors import BadNumber, BadPins, BadRow, Misfit
from sixpins.forms import lies
from sixpins.papers import Denial, Paper
from sixpins.pins import Pins
from sixpins.space import line_through, on_line
from sixpins.surface import AtPin, Bar, Curve, Off, Spot, Surface
from tests.samples import CORNERS, LONG, NO_OBJECTS, PLAINEST, SURFACES, drawn_pins, shuffled
from tests.support import (Case, ODD, ODD_INTEGERS, Source, dotted, is_reduced, listed, plain_by_hand,
                           rank_by_hand, reduced_by_hand, scaled, sum_of, value_by_hand, wrong_rows)
from tests.test_pins import BENT, CASES, changed, some_orders


def lattice(degree):
    """Spots enough to settle a form of this degree: it is 0 throughout if it is 0 at all of them."""
    return [(x, y, degree - x - y) for x in range(degree + 1) for y in range(degree + 1 - x)]


def cubic_at(form, row):
    """The value of a form of third degree in space, a little faster than term by term."""
    a, b, c, d = row
    told = (a * a * a, a * a * b, a * a * c, a * a * d, a * b * b, a * b * c, a * b * d, a * c * c, a * c * d, a * d * d,
            b * b * b, b * b * c, b * b * d, b * c * c, b * c * d, b * d * d, c * c * c, c * c * d, c * d * d, d * d * d)
    return dotted(form, told)


def cross(one, other):
    """The plain row that is orthogonal to two rows of three."""
    return plain_by_hand([one[1] * other[2] - one[2] * other[1], one[2] * other[0] - one[0] * other[2],
                          one[0] * other[1] - one[1] * other[0]])


def values(surface, spot):
    """The values of the four curves at a spot."""
    return [value_by_hand(curve, 3, 3, spot) for curve in surface.curves]


def slopes(form, degree, spot):
    """The slopes of a form at a spot, as differences that are told by more than one step."""
    told = []
    for letter in range(3):
        step = [int(at == letter) for at in range(3)]
        steps = [value_by_hand(form, 3, degree, sum_of((1, k), (spot, step))) for k in (-2, -1, 0, 1, 2)]
        told.append((steps[0] - 8 * steps[1] + 8 * steps[3] - steps[4]) // 12)
    return told


def touching(pins, pin):
    """The line that touches the curve of second degree through all pins, at this pin."""
    return plain_by_hand(slopes(pins.curve, 2, pins.spots[pin]))


def bar_lines(pins):
    """The lines of the plane with three pins."""
    told = []
    for bar in pins.bars:
        if bar != BENT:
            one, other = [spot for spot, number in zip(pins.spots, bar[1:]) if number][:2]
            told.append(cross(one, other))
    return told


def source_of_spot(pins, spot):
    """What the place of a spot that is no pin comes from."""
    if pins.curve is not None and value_by_hand(pins.curve, 3, 2, spot) == 0:
        return Curve(pins.curve)
    lines = [line for line in bar_lines(pins) if dotted(line, spot) == 0]
    if lines and pins.curve is None:
        return Bar(lines[0])
    return Spot(plain_by_hand(spot))


def source_at_pin(pins, pin, line):
    """What the place of a pin with a line comes from."""
    told = plain_by_hand(line)
    if pins.curve is not None:
        return Curve(pins.curve) if touching(pins, pin) == told else AtPin(pin, told)
    return Bar(told) if told in bar_lines(pins) else AtPin(pin, told)


def spots_of(source, pins):
    """Spots near pins, on joins and bars, on the curve through all pins, and drawn ones."""
    told = [source.nonzero(3, 9) for _ in range(6)] + [source.nonzero(3, 10 ** 6) for _ in range(2)]
    told += [sum_of((1000, 1), (spot, source.nonzero(3, 3))) for spot in pins.spots]
    told += [sum_of((source.within(1, 5), source.within(-5, -1)), (one, other))
             for at, one in enumerate(pins.spots) for other in pins.spots[at + 1:]]
    if pins.curve is not None:
        told += [further_spot(pins, source.nonzero(3, 9)) for _ in range(4)]
    return [spot for spot in told if any(spot) and plain_by_hand(spot) not in pins.spots]


def further_spot(pins, spot):
    """The second spot of the curve through all pins in a line with pin 0 and a spot."""
    first = pins.spots[0]
    both = value_by_hand(pins.curve, 3, 2, sum_of((1, 1), (first, spot)))
    alone = value_by_hand(pins.curve, 3, 2, spot)
    return sum_of((alone, alone - both), (first, spot))


def drawn_line(source, spot):
    """A line of the plane through a spot."""
    other = source.nonzero(3, 9)
    return cross(spot, other) if rank_by_hand([spot, other], 3) == 2 else drawn_line(source, spot)


class MakingTest(Case):

    def check(self, spots):
        """All that is told of what the surface of these pins has; it is returned."""
        pins = Pins(spots)
        surface = Surface(pins)
        self.assertEqual(surface.pins, pins)
        self.same(surface.curves, curves(pins))
        self.check_form(surface)
        self.check_relations(surface)
        return surface

    def check_form(self, surface):
        self.assertIs(type(surface.form), tuple)
        self.assertEqual(len(surface.form), 20)
        self.same(surface.form, plain_by_hand(surface.form))
        for spot in lattice(9):
            self.assertEqual(cubic_at(surface.form, values(surface, spot)), 0)

    def check_relations(self, surface):
        self.assertTrue(is_reduced(surface.relations, 12))
        self.assertEqual(len(surface.relations), 3)
        for row in surface.relations:
            for spot in lattice(4):
                numbers = [letter * value for value in values(surface, spot) for letter in spot]
                self.assertEqual(dotted(row, numbers), 0)
        told = tuple(tuple(tuple(row[3 * at + letter] for at in range(4)) for letter in range(3))
                     for row in surface.relations)
        self.same(surface.matrix, told)

    def test_the_seven_cases(self):
        for name, surface in SURFACES:
            with self.subTest(name):
                self.check(surface.pins.spots)

    def test_other_orders_rows_and_changes(self):
        for name, spots in shuffled(101):
            with self.subTest(name):
                self.check(spots)

    def test_drawn_pins_with_six_digits(self):
        for seed in range(3):
            self.check(drawn_pins(seed).spots)

    def test_the_order_of_the_pins_tells_nothing_else(self):
        source = Source(102)
        for name, spots, _, _ in CASES:
            told = Surface(Pins(spots))
            for order in some_orders(source):
                with self.subTest(name, order=order):
                    turned = Surface(Pins([scaled(spots[pin], 2) for pin in order]))
                    self.same([turned.curves, turned.form, turned.relations, turned.matrix],
                              [told.curves, told.form, told.relations, told.matrix])

    def test_settled_pins_with_long_integers(self):
        source = Source(103)
        frame = ((1, 0, 0), (0, 1, 0), (0, 0, 1), (1, 1, 1))
        surface = Surface(Pins([*frame, source.nonzero(3, 10 ** 150), source.nonzero(3, 10 ** 150)]))
        spot = (3, -4, 5)
        self.assertEqual(surface.back(surface.place_of(spot)), Spot(spot))

    def test_known_forms(self):
        self.same(CORNERS.form, (0, 0, 0, 0, 0, 0, 1, -1, 0, 0, 0, 0, 0, -1, 0, 0, -2, -1, 0, 0))
        hill = SURFACES[2][1]
        self.same(hill.form, (0, 0, 0, 0, 0, 0, 1, -1, 0, 0, 0, -120, 0, 274, 0, 0, -225, 85, -15, 1))
        self.same(SURFACES[4][1].form, (0, 0, 0, 0, 0, 0, 4, 0, -8, 0, 0, -1, 0, 4, 0, 0, -3, 0, -4, 0))

    def test_equal(self):
        self.assertIs(CORNERS == Surface(Pins(CASES[6][1])), True)
        self.assertIs(CORNERS != Surface(Pins(CASES[6][1])), False)
        turned = Surface(Pins(CASES[6][1][::-1]))
        self.same(turned.form, CORNERS.form)
        self.assertIs(CORNERS == turned, False)
        self.assertIs(CORNERS != turned, True)
        for value in (None, True, CORNERS.pins, CORNERS.form, "corners", [CORNERS]):
            self.assertIs(CORNERS == value, False)
            self.assertIs(CORNERS != value, True)

    def test_no_pins(self):
        for value in NO_OBJECTS + (CORNERS,):
            self.refused(BadPins, "pins", Surface, value)
        self.assertEqual(Surface(pins=CORNERS.pins), CORNERS)


class PapersTest(Case):

    def test_words_and_parts(self):
        for paper, word, fields in ((Spot([1, 2, 3]), "spot", {"spot": (1, 2, 3)}),
                                    (AtPin(2, [0, 1, 0]), "atpin", {"pin": 2, "line": (0, 1, 0)}),
                                    (Bar([0, 1, 0]), "bar", {"line": (0, 1, 0)}),
                                    (Curve([0, 0, 1, -1, 0, 0]), "curve", {"curve": (0, 0, 1, -1, 0, 0)})):
            self.assertIs(bool(paper), True)
            self.assertIsInstance(paper, Paper)
            self.assertNotIsInstance(paper, Denial)
            self.assertEqual(paper.word, word)
            self.same(paper.parts, tuple(fields.values()))
            for name, value in fields.items():
                self.same(getattr(paper, name), value)
            self.assertEqual(type(paper)(**fields), paper)
        self.assertEqual((Off().word, Off().parts, bool(Off())), ("off", (), False))
        self.assertIsInstance(Off(), Denial)
        self.assertNotEqual(Spot((1, 2, 3)), Bar((1, 2, 3)))


class ThereAndBackTest(Case):

    def check_spots(self, source, surface):
        pins = surface.pins
        for spot in spots_of(source, pins):
            with self.subTest(spot=spot):
                place = surface.place_of(spot)
                self.same(place, plain_by_hand(values(surface, spot)))
                self.check_place(surface, place, source_of_spot(pins, spot))
                self.same(surface.place_of(scaled(spot, -7)), place)

    def check_pins(self, source, surface):
        pins = surface.pins
        for pin, spot in enumerate(pins.spots):
            self.assertIsNone(surface.place_of(spot))
            self.assertIsNone(surface.place_of(scaled(spot, -3)))
            lines = [drawn_line(source, spot) for _ in range(3)]
            lines += [cross(spot, other) for other in pins.spots if other != spot]
            lines += [touching(pins, pin)] if pins.curve else []
            gradients = [slopes(curve, 3, spot) for curve in surface.curves]
            for line in lines:
                with self.subTest(pin=pin, line=line):
                    other = [along for along in (cross(line, (1, 2, 5)), cross(line, (3, 1, 1)))
                             if along != spot][0]
                    place = surface.place_at(pin, line)
                    self.same(place, plain_by_hand([dotted(row, other) for row in gradients]))
                    self.check_place(surface, place, source_at_pin(pins, pin, line))
                    self.same(surface.place_at(pin, scaled(line, -2)), place)

    def check_place(self, surface, place, expected):
        self.assertEqual(cubic_at(surface.form, place), 0)
        for row in (place, scaled(place, -5)):
            told = surface.back(row)
            self.assertEqual(told, expected)
            self.same(told.parts, expected.parts)
            self.assertIs(surface.holds(row), True)
            self.assertIs(row in surface, True)

    def test_the_seven_cases(self):
        source = Source(111)
        for name, surface in SURFACES:
            with self.subTest(name):
                self.check_spots(source, surface)
                self.check_pins(source, surface)

    def test_other_orders_rows_and_changes(self):
        source = Source(112)
        for name, spots in shuffled(113):
            with self.subTest(name):
                surface = Surface(Pins(spots))
                self.check_spots(source, surface)
                self.check_pins(source, surface)

    def test_drawn_pins_with_six_digits(self):
        source = Source(114)
        surface = Surface(drawn_pins(4))
        self.check_spots(source, surface)
        self.check_pins(source, surface)

    def test_the_spot_of_a_line_makes_no_difference(self):
        for name, surface in SURFACES:
            spot = surface.pins.spots[3]
            gradients = [slopes(curve, 3, spot) for curve in surface.curves]
            for along in ((2, 3, 5), (sum_of((7, -4), (spot, (2, 3, 5))))):
                self.same(surface.place_at(3, cross(spot, along)),
                          plain_by_hand([dotted(row, along) for row in gradients]))

    def test_off(self):
        source = Source(115)
        for name, surface in SURFACES:
            many = 0
            for _ in range(20):
                place = source.nonzero(4, 20)
                told = cubic_at(surface.form, place) == 0
                self.assertIs(surface.holds(place), told)
                self.assertIs(place in surface, told)
                self.assertIs(list(place) in surface, told)
                self.assertEqual(surface.back(place) == Off(), not told)
                many += not told
            self.assertGreater(many, 10)

    def test_in_takes_any_value(self):
        for value in wrong_rows(4):
            self.assertIs(value in CORNERS, False)
        self.assertIs([1, 1, 0, 0] in CORNERS, True)

    def test_errors(self):
        for value in wrong_rows(3):
            self.refused(BadRow, "spot", CORNERS.place_of, value)
            self.refused(BadRow, "line", CORNERS.place_at, 0, value)
        for value in wrong_rows(4):
            self.refused(BadRow, "place", CORNERS.holds, value)
            self.refused(BadRow, "place", CORNERS.back, value)
        for value in ODD_INTEGERS + (-1, 6):
            self.refused(BadNumber, "pin", CORNERS.place_at, value, (0, 1, 0))
            self.refused(BadNumber, "pin", CORNERS.place_at, value, (1, 0, 0))
            self.refused(BadNumber, "pin", CORNERS.place_at, line=None, pin=value)
        for line in ((1, 0, 0), (-3, 5, 1), [2, 0, 0]):
            self.refused(Misfit, "line", CORNERS.place_at, 0, line)
        self.refused(Misfit, "line", CORNERS.place_at, 3, (0, 1, -1))

    def test_by_name(self):
        self.same(CORNERS.place_of(spot=[1, 1, 1]), (2, 2, 1, 2))
        self.same(CORNERS.place_at(line=[0, 1, -1], pin=0), (1, 1, 0, 0))
        self.assertIs(CORNERS.holds(place=[1, 1, 0, 0]), True)
        self.assertEqual(CORNERS.back(place=[1, 1, 0, 0]), AtPin(0, (0, 1, -1)))


class ThirdTest(Case):

    def places(self, source, surface):
        """Places of a surface: of drawn spots, of pins with lines, and peaks."""
        pins = surface.pins
        told = [surface.place_of(spot) for spot in spots_of(source, pins)[:10:2]]
        told += [surface.place_at(pin, drawn_line(source, pins.spots[pin])) for pin in (0, 3)]
        return told + [surface.place_of(spot) for line in bar_lines(pins) for spot in (cross(line, (1, 3, 7)),)
                       if spot not in pins.spots]

    def check(self, surface, one, other):
        numbers = self.numbers(surface, one, other)
        third = surface.third(one, other)
        if not any(numbers):
            self.assertIsNone(third)
            self.assertTrue(lies(surface.form, (one, other)))
            return
        # As the form on both rows is s t (b s + c t), it is 0 at c and -b.
        self.same(third, plain_by_hand(sum_of((numbers[1], -numbers[0]), (one, other))))
        self.assertEqual(cubic_at(surface.form, third), 0)
        self.assertTrue(on_line((one, other), third))
        self.same(surface.third(other, one), third)
        self.same(surface.third(scaled(one, -2), listed(other)), third)
        if third not in (one, other):
            self.same(surface.third(one, third), other)

    def numbers(self, surface, one, other):
        """The integers b and c, by the values at one + other and one - other."""
        plus = cubic_at(surface.form, sum_of((1, 1), (one, other)))
        minus = cubic_at(surface.form, sum_of((1, -1), (one, other)))
        return (plus - minus) // 2, (plus + minus) // 2

    def test_third(self):
        source = Source(121)
        for name, surface in SURFACES:
            places = self.places(source, surface)
            for at, one in enumerate(places):
                for other in places[at + 1:]:
                    if one != other:
                        with self.subTest(name, one=one, other=other):
                            self.check(surface, one, other)

    def test_third_with_six_digits(self):
        source = Source(122)
        surface = Surface(Pins(changed(LONG, CASES[3][1])))
        places = self.places(source, surface)
        for one, other in zip(places, places[1:]):
            if one != other:
                self.check(surface, one, other)

    def test_on_lines_of_the_surface(self):
        # Both places come from one pin, or from spots in a line with two pins.
        for name, surface in SURFACES:
            pins = surface.pins
            one, other = [surface.place_at(0, drawn_line(Source(seed), pins.spots[0])) for seed in (1, 5)]
            self.assertNotEqual(one, other)
            self.assertIsNone(surface.third(one, other))
        one, other = [PLAINEST.place_of((1, number, 0)) for number in (1, 2)]
        self.assertIsNone(PLAINEST.third(one, other))

    def test_touching_and_peaks(self):
        self.same(CORNERS.third((1, 1, 0, 0), (2, 2, 1, 2)), (1, 1, -1, -2))
        # From a peak the line is 0 twice there.
        self.same(CORNERS.third((1, 0, 0, 0), (2, 2, 1, 2)), (1, 0, 0, 0))
        self.same(CORNERS.third((2, 2, 1, 2), (1, 0, 0, 0)), (1, 0, 0, 0))
        self.assertIsNone(CORNERS.third((1, 0, 0, 0), (0, 1, 0, 0)))
        # The third place of a place and the third of a line that touches there is the first again.
        touched = 0
        for name, surface in SURFACES[:3]:
            place = surface.place_of((1, 1, 2)) or surface.place_of((1, 2, 1))
            derivatives = [self.slope(surface.form, place, letter) for letter in range(4)]
            for further in ((1, 0, 0, 0), (0, 1, 0, 0), (0, 0, 1, 0), (0, 0, 0, 1)):
                # A direction in which the form does not grow at the place.
                number = dotted(derivatives, further)
                other = [step for step in ((1, 2, 3, 4), (2, 1, 1, 5), (1, 1, 0, 2)) if dotted(derivatives, step)][0]
                along = sum_of((dotted(derivatives, other), -number), (further, other))
                if rank_by_hand([place, along], 4) == 2:
                    touched += self.check_touching(surface, place, along)
        self.assertGreater(touched, 6)

    def slope(self, form, place, letter):
        step = [int(at == letter) for at in range(4)]
        told = [cubic_at(form, sum_of((1, k), (place, step))) for k in (-2, -1, 1, 2)]
        return (told[0] - 8 * told[1] + 8 * told[2] - told[3]) // 12

    def check_touching(self, surface, place, along):
        """On the line s place + t along the form is t t (m s + n t): its further place and the first touch."""
        plus = cubic_at(surface.form, sum_of((1, 1), (place, along)))
        minus = cubic_at(surface.form, sum_of((1, -1), (place, along)))
        twice, thrice = (plus + minus) // 2, (plus - minus) // 2
        self.assertEqual(cubic_at(surface.form, along), thrice)
        if not twice:
            return 0
        further = plain_by_hand(sum_of((-thrice, twice), (place, along)))
        self.assertIn(further, surface)
        self.same(surface.third(place, further), place)
        self.same(surface.third(further, place), place)
        return 1

    def test_errors(self):
        on, further, off = (1, 0, 0, 0), (2, 2, 1, 2), (1, 1, 1, 1)
        for value in wrong_rows(4):
            self.refused(BadRow, "one", CORNERS.third, value, further)
            self.refused(BadRow, "one", CORNERS.third, value, value)
            self.refused(BadRow, "other", CORNERS.third, on, value)
            self.refused(BadRow, "other", CORNERS.third, off, value)
        self.refused(Misfit, "one", CORNERS.third, off, on)
        self.refused(Misfit, "one", CORNERS.third, off, off)
        self.refused(Misfit, "one", CORNERS.third, other=(1, 2, 3, 4), one=off)
        self.refused(Misfit, "other", CORNERS.third, on, off)
        self.refused(Misfit, "other", CORNERS.third, on, on)
        self.refused(Misfit, "other", CORNERS.third, further, scaled(further, -3))

    def test_by_name(self):
        self.same(CORNERS.third(other=[2, 2, 1, 2], one=[1, 1, 0, 0]), (1, 1, -1, -2))


class FactsTest(Case):

    def test_kernels_of_the_matrix(self):
        for name, surface in SURFACES:
            pins = surface.pins
            for spot in spots_of(Source(131), pins)[:8]:
                place = surface.place_of(spot)
                table = [[dotted(form, place) for form in row] for row in surface.matrix]
                for row in table:
                    self.assertEqual(dotted(row, spot), 0)
                told = source_of_spot(pins, spot).word
                self.assertEqual(rank_by_hand(table, 3), {"spot": 2, "bar": 1, "curve": 0}[told])

    def test_pins_with_all_lines_make_up_a_line(self):
        for name, surface in SURFACES:
            for pin, spot in enumerate(surface.pins.spots):
                rows = [surface.place_at(pin, drawn_line(Source(seed), spot)) for seed in range(6)]
                self.assertEqual(len(reduced_by_hand(rows, 4)), 2)
                self.assertTrue(lies(surface.form, line_through(*list(dict.fromkeys(rows))[:2])))

    def test_nothing_changes(self):
        rows = [list(spot) for spot in CASES[6][1]]
        pins = Pins(rows)
        surface = Surface(pins)
        rows[0][0] = 5
        self.assertEqual(surface, CORNERS)
        for value in ODD:
            self.assertIs(value in surface, False)
        self.same(surface.form, CORNERS.form)


if __name__ == "__main__":
    unittest.main()

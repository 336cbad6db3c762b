"""Changes of the plane and of space, frames, settled pins, and what changes lead along."""

import unittest
from itertools import combinations, permutations

from sixpins.changes import (Flat, Lifted, NoFlat, Settled, Unlike, changed_form, frame_of, judged_flat, led_line, led_pins,
                             lifted, settled_pins)
from sixpins.errors import BadForm, BadPins, BadRow, BadTable
from sixpins.lines import line_of
from sixpins.names import all_names
from sixpins.pins import Pins
from sixpins.space import line_through
from sixpins.surface import Surface
from sixpins.tables import multiplied, plain_table, undone
from tests.samples import CORNERS, LONG, NO_OBJECTS, PLAINEST, SURFACES, drawn_pins, shuffled
from tests.support import Case, Source, determinant_by_hand, dotted, listed, plain_by_hand, reduced_by_hand, scaled
from tests.test_fans import wrong_forms
from tests.test_pins import CASES, CHANGES, FOUR, SMOOTH, changed, some_orders
from tests.test_space import wrong_lines
from tests.test_surface import cubic_at, spots_of
from tests.test_tables import WRONG as WRONG_TABLES
from tests.test_tables import unit

FRAME = ((1, 0, 0), (0, 1, 0), (0, 0, 1), (1, 1, 1))
NO_PINS = NO_OBJECTS + (CORNERS,)


def no_changes(many):
    """Values of all kinds that are no change with so many rows."""
    told = [*WRONG_TABLES, [[0] * many] * many, [[1] * many] * many, CORNERS, CORNERS.pins, unit(many)[:-1], [unit(many)]]
    told += [unit(other) for other in (2, 3, 4) if other != many]
    singular = [list(row) for row in unit(many)]
    singular[-1] = [1] * (many - 1) + [0]
    return told + [singular, [*unit(many)[:-1], unit(many)[0]], [*unit(many)[:-1], (0,) * many]]


def drawn_change(source, many, most=9):
    """A table of so many rows whose determinant is not 0."""
    table = [source.row(many, most) for _ in range(many)]
    return table if determinant_by_hand(table) else drawn_change(source, many, most)


def plain_by_hand_table(table):
    """The plain table of a table, worked out over fractions."""
    many = len(table)
    row = plain_by_hand([number for mine in table for number in mine])
    return tuple(row[at * many:(at + 1) * many] for at in range(many))


def threes_in_line(spots):
    """The threes of numbers of spots that are in a line."""
    return [three for three in combinations(range(6), 3) if determinant_by_hand([spots[pin] for pin in three]) == 0]


def frame_by_hand(spots):
    """The first four numbers of which no three are in a line."""
    lined = threes_in_line(spots)
    return [four for four in combinations(range(6), 4)
            if not any(three in lined for three in combinations(four, 3))][0]


class FrameTest(Case):

    def test_frames(self):
        for name, spots, _, _ in CASES:
            for order in permutations(range(6)):
                told = [spots[pin] for pin in order]
                if order[0] < 2:
                    self.same(frame_of(Pins(told)), frame_by_hand(told))
        self.same(frame_of(pins=Pins(FOUR)), (0, 1, 3, 4))

    def test_errors(self):
        for value in NO_PINS:
            self.refused(BadPins, "pins", frame_of, value)


class SettledTest(Case):

    def check(self, spots):
        pins = Pins(spots)
        told = settled_pins(pins)
        self.assertIs(type(told), Settled)
        self.assertIs(type(told.pins), Pins)
        frame = frame_by_hand(pins.spots)
        self.same(tuple(told.pins.spots[pin] for pin in frame), FRAME)
        self.same(told.change, plain_by_hand_table(told.change))
        self.assertNotEqual(determinant_by_hand(told.change), 0)
        for spot, settled in zip(pins.spots, told.pins.spots):
            self.same(plain_by_hand([dotted(row, spot) for row in told.change]), settled)
        self.assertEqual(told.pins.bars, pins.bars)
        self.assertEqual(settled_pins(told.pins), Settled(told.pins, unit(3)))
        self.assertEqual(settled_pins(pins), told)
        return told

    def test_the_seven_cases(self):
        source = Source(311)
        for name, spots, _, _ in CASES:
            first = None
            for order in some_orders(source):
                with self.subTest(name, order=order):
                    self.check([spots[pin] for pin in order])
            for change in CHANGES + (LONG,):
                with self.subTest(name, change=change):
                    told = self.check(changed(change, spots))
                    first = first or told
                    # A change of the plane makes no other settled pins.
                    self.assertEqual(told.pins, first.pins)

    def test_six_digits(self):
        for seed in range(4):
            self.check(drawn_pins(seed).spots)
        for name, spots in shuffled(312):
            with self.subTest(name):
                self.check(spots)

    def test_known(self):
        told = settled_pins(pins=Pins(CASES[2][1]))
        self.same(told.change, ((6, -9, 3), (0, -4, 2), (0, -1, 1)))
        self.same(told.pins.spots, FRAME + ((9, 8, 6), (18, 15, 10)))

    def test_errors(self):
        for value in NO_PINS:
            self.refused(BadPins, "pins", settled_pins, value)


class LedPinsTest(Case):

    def test_led(self):
        source = Source(313)
        for name, spots, _, _ in CASES:
            pins = Pins(spots)
            for change in [drawn_change(source, 3) for _ in range(4)]:
                told = led_pins(pins, change)
                self.assertIs(type(told), Pins)
                self.same(told.spots, tuple(plain_by_hand(spot) for spot in changed(change, spots)))
                self.assertEqual(led_pins(pins, [scaled(row, -4) for row in change]), told)
                self.assertEqual(told.bars, pins.bars)
                self.assertEqual(led_pins(told, undone(change)), pins)
                further = drawn_change(source, 3)
                self.assertEqual(led_pins(told, further), led_pins(pins, multiplied(further, change)))

    def test_errors(self):
        for value in NO_PINS:
            self.refused(BadPins, "pins", led_pins, value, unit(3))
            self.refused(BadPins, "pins", led_pins, value, value)
        for value in no_changes(3):
            self.refused(BadTable, "change", led_pins, CORNERS.pins, value)
        self.assertEqual(led_pins(change=listed(unit(3)), pins=CORNERS.pins), CORNERS.pins)


class JudgedFlatTest(Case):

    def judged(self, one, other):
        """What is told of both, worked out by their threes in a line and by their settled pins."""
        first, second = threes_in_line(one.spots), threes_in_line(other.spots)
        alone = sorted(set(first) ^ set(second))
        if alone:
            return Unlike(alone[0])
        mine, its = settled_pins(one).pins, settled_pins(other).pins
        unlike = [pin for pin in range(6) if mine.spots[pin] != its.spots[pin]]
        if unlike:
            return NoFlat(unlike[0], mine.spots[unlike[0]], its.spots[unlike[0]])
        return None

    def check(self, one, other):
        told, expected = judged_flat(one, other), self.judged(one, other)
        if expected is None:
            self.assertIs(type(told), Flat)
            self.assertIs(bool(told), True)
            self.same(told.change, plain_by_hand_table(told.change))
            for spot, further in zip(one.spots, other.spots):
                self.same(plain_by_hand([dotted(row, spot) for row in told.change]), further)
        else:
            self.assertEqual(told, expected)
            self.assertIs(type(told), type(expected))
            self.same(told.parts, expected.parts)
            self.assertIs(bool(told), False)
        return told

    def test_led_by_a_change(self):
        source = Source(314)
        for name, spots, _, _ in CASES:
            pins = Pins(spots)
            for change in [drawn_change(source, 3) for _ in range(3)] + [LONG]:
                told = self.check(pins, led_pins(pins, change))
                self.same(told.change, plain_by_hand_table(change))
            self.assertEqual(self.check(pins, pins), Flat(unit(3)))

    def test_pins_exchanged(self):
        words = []
        for name, spots, _, _ in CASES:
            pins = Pins(spots)
            for one, other in combinations(range(6), 2):
                order = list(range(6))
                order[one], order[other] = order[other], order[one]
                words.append(self.check(pins, Pins([spots[pin] for pin in order])).word)
        self.assertEqual(sorted(set(words)), ["flat", "noflat", "unlike"])

    def test_one_put_elsewhere(self):
        source = Source(315)
        for name, spots, _, _ in CASES:
            pins = Pins(spots)
            for pin in range(6):
                further = list(changed(CHANGES[0], spots))
                further[pin] = source.nonzero(3, 50)
                self.check(pins, Pins(further))
                self.check(Pins(further), pins)

    def test_a_pin_moved_along_its_lines(self):
        # The same three pins are in a line, but one of them is elsewhere.
        spots = list(CASES[3][1])
        spots[1] = (1, 1, 0)
        spots[2] = (1, 5, 0)
        told = self.check(Pins(CASES[3][1]), Pins(spots))
        self.assertIs(type(told), NoFlat)

    def test_other_pins(self):
        for one, other in permutations([surface.pins for _, surface in SURFACES], 2):
            told = self.check(one, other)
            self.assertIs(bool(told), False)
        self.assertIs(type(self.check(drawn_pins(1), drawn_pins(2))), NoFlat)

    def test_known(self):
        turned = Pins([FOUR[pin] for pin in (1, 0, 2, 3, 4, 5)])
        self.assertEqual(judged_flat(CORNERS.pins, turned), Unlike((0, 2, 3)))
        further = Pins([(1, k, k * k) for k in (0, 1, 2, 3, 4, 6)])
        self.assertEqual(judged_flat(other=further, pins=Pins(CASES[2][1])), NoFlat(5, (18, 15, 10), (10, 8, 5)))

    def test_errors(self):
        for value in NO_PINS:
            self.refused(BadPins, "pins", judged_flat, value, CORNERS.pins)
            self.refused(BadPins, "pins", judged_flat, value, value)
            self.refused(BadPins, "other", judged_flat, CORNERS.pins, value)


class LiftedTest(Case):

    def check(self, pins, change, source):
        told = lifted(pins, change)
        self.assertIs(type(told), Lifted)
        self.assertEqual(told.pins, led_pins(pins, change))
        self.same(told.change, plain_by_hand_table(told.change))
        self.assertEqual(len(told.change), 4)
        one, other = Surface(pins), Surface(told.pins)
        for spot in spots_of(source, pins)[::3]:
            place = one.place_of(spot)
            further = other.place_of([dotted(row, spot) for row in change])
            self.same(plain_by_hand([dotted(row, place) for row in told.change]), further)
        self.same(changed_form(one.form, told.change), other.form)
        for name in all_names():
            self.same(led_line(told.change, line_of(one, name)), line_of(other, name))
        return told

    def test_the_seven_cases(self):
        source = Source(316)
        for name, surface in SURFACES:
            with self.subTest(name):
                for change in (drawn_change(source, 3), CHANGES[1]):
                    self.check(surface.pins, change, source)

    def test_six_digits(self):
        source = Source(317)
        self.check(PLAINEST.pins, LONG, source)
        self.check(drawn_pins(3), drawn_change(source, 3), source)

    def test_one_change_behind_another(self):
        source = Source(318)
        for name, surface in SURFACES:
            one, other = drawn_change(source, 3), drawn_change(source, 3)
            first = lifted(surface.pins, one)
            second = lifted(first.pins, other)
            both = lifted(surface.pins, multiplied(other, one))
            self.assertEqual(both.pins, second.pins)
            self.same(both.change, plain_table(multiplied(second.change, first.change)))
            back = lifted(first.pins, undone(one))
            self.assertEqual(back, Lifted(surface.pins, undone(first.change)))
            self.assertEqual(lifted(surface.pins, [scaled(row, -2) for row in one]), first)

    def test_still(self):
        for name, surface in SURFACES:
            self.assertEqual(lifted(surface.pins, unit(3)), Lifted(surface.pins, unit(4)))

    def test_known(self):
        told = lifted(change=[(0, 1, 0), (1, 0, 0), (0, 0, 1)], pins=CORNERS.pins)
        self.same(told.change, ((1, 0, 0, 0), (0, 0, 0, 1), (0, 0, 1, 0), (0, 1, 0, 0)))

    def test_errors(self):
        for value in NO_PINS:
            self.refused(BadPins, "pins", lifted, value, unit(3))
            self.refused(BadPins, "pins", lifted, value, value)
        for value in no_changes(3):
            self.refused(BadTable, "change", lifted, CORNERS.pins, value)


class ChangedFormTest(Case):

    def check(self, form, change):
        told = changed_form(form, change)
        self.same(told, plain_by_hand(told))
        self.assertEqual(len(told), 20)
        source, ratio = Source(319), None
        for _ in range(12):
            row = source.nonzero(4, 9)
            before = cubic_at(form, row)
            after = cubic_at(told, [dotted(mine, row) for mine in change])
            self.assertEqual(before == 0, after == 0)
            if before and ratio is None:
                ratio = (before, after)
            if ratio:
                self.assertEqual(before * ratio[1], after * ratio[0])
        return told

    def test_forms(self):
        source = Source(320)
        for _ in range(12):
            self.check(source.nonzero(20, 9), drawn_change(source, 4))
        for name, surface in SURFACES:
            self.check(surface.form, drawn_change(source, 4))
            self.same(changed_form(surface.form, unit(4)), surface.form)

    def test_one_change_behind_another_and_undone(self):
        source = Source(321)
        for _ in range(8):
            form, one, other = source.nonzero(20, 9), drawn_change(source, 4), drawn_change(source, 4)
            first = changed_form(form, one)
            self.same(changed_form(first, other), changed_form(form, multiplied(other, one)))
            self.same(changed_form(first, undone(one)), plain_by_hand(form))
            self.same(changed_form(scaled(form, -3), [scaled(row, 5) for row in one]), first)
            self.same(changed_form(list(form), listed(one)), first)

    def test_known(self):
        change = ((1, 0, 0, 0), (0, 1, 0, 0), (0, 0, 1, 0), (0, 0, 5, 2))
        told = changed_form(form=(0,) * 19 + (1,), change=change)
        self.same(told, (0,) * 16 + (125, -75, 15, -1))

    def test_errors(self):
        for value in wrong_forms():
            self.refused(BadForm, "form", changed_form, value, unit(4))
            self.refused(BadForm, "form", changed_form, value, value)
        for value in no_changes(4):
            self.refused(BadTable, "change", changed_form, CORNERS.form, value)


class LedLineTest(Case):

    def test_lines(self):
        source = Source(322)
        for _ in range(30):
            one, other = source.nonzero(4, 9), source.nonzero(4, 9)
            if plain_by_hand(one) == plain_by_hand(other):
                continue
            change, further = drawn_change(source, 4), drawn_change(source, 4)
            told = led_line(change, (one, other))
            rows = [[dotted(row, place) for row in change] for place in (one, other)]
            self.same(told, reduced_by_hand(rows, 4))
            self.same(led_line(listed(change), [scaled(one, -3), other]), told)
            self.same(led_line(further, told), led_line(multiplied(further, change), (one, other)))
            self.same(led_line(undone(change), told), line_through(one, other))
            self.same(led_line([scaled(row, -2) for row in change], told), led_line(change, told))

    def test_errors(self):
        line = ((1, 0, 0, 0), (0, 1, 0, 0))
        for value in no_changes(4):
            self.refused(BadTable, "change", led_line, value, line)
            self.refused(BadTable, "change", led_line, value, value)
        for value in wrong_lines():
            self.refused(BadRow, "line", led_line, unit(4), value)
        self.same(led_line(line=line, change=unit(4)), line)


class FactsTest(Case):

    def test_facts(self):
        # There is always a frame; pins led to one another have the same threes in a line.
        for name, surface in SURFACES:
            pins = surface.pins
            other = led_pins(pins, CHANGES[2])
            self.assertEqual(threes_in_line(pins.spots), threes_in_line(other.spots))
            self.assertEqual(settled_pins(pins).pins, settled_pins(other).pins)
        self.assertNotEqual(settled_pins(Pins(SMOOTH)).pins, settled_pins(Pins(SMOOTH[::-1])).pins)

    def test_what_is_passed_may_change_afterwards(self):
        change = [[0, 1, 0], [1, 0, 0], [0, 0, 1]]
        told = lifted(CORNERS.pins, change)
        before = told.change
        change[0][0] = 7
        self.same(told.change, before)


if __name__ == "__main__":
    unittest.main()

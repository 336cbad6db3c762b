"""Which names stand for pins, and on which the others fall."""

import unittest

from sixpins.classes import times_crossed
from sixpins.errors import BadName, BadPins
from sixpins.falls import falls_on, is_standing, standing_names, weights_of
from sixpins.names import all_sixes, is_six
from sixpins.pins import Pins
from tests.samples import CORNERS, NO_NAMES, NO_OBJECTS, SURFACES, shuffled
from tests.support import Case, Source
from tests.test_names import AT, CLASSES, NAMES

# By the number of bars: the weights, and how many sixes stand.
WEIGHTS = {(): ([1] * 27, 72), (1,): ([1] * 15 + [2] * 6, 21), (1, 1): ([1] * 7 + [2] * 8 + [4], 6),
           (2,): ([1] * 9 + [3] * 6, 1), (1, 1, 1): ([1] * 3 + [2] * 6 + [4] * 3, 2),
           (1, 1, 1, 1): ([1] * 3 + [4] * 6, 1)}

BY_CLASS = {row: name for name, row in CLASSES.items()}


def fallen_by_hand(source, bars, name):
    """The name on which a name falls, with the bars taken off in a drawn order."""
    row = CLASSES[name]
    while True:
        below = [bar for bar in bars if times_crossed(row, bar) < 0]
        if not below:
            return BY_CLASS[row]
        bar = below[source.below(len(below))]
        row = tuple(mine - its for mine, its in zip(row, bar))


def turned_with(bars, name):
    """All names to which rows of turns at bars lead a name."""
    told = [CLASSES[name]]
    for row in told:
        for bar in bars:
            many = times_crossed(row, bar)
            further = tuple(mine + many * its for mine, its in zip(row, bar))
            if further not in told:
                told.append(further)
    return sorted((BY_CLASS[row] for row in told), key=AT.get)


class FallsTest(Case):

    def check(self, source, pins):
        """All that is told of the names for these pins."""
        standing = tuple(name for name in NAMES
                         if all(times_crossed(CLASSES[name], bar) >= 0 for bar in pins.bars))
        self.same(standing_names(pins), standing)
        for name in NAMES:
            self.assertIs(is_standing(pins, name), name in standing)
            onto = falls_on(pins, name)
            self.same([onto] * 3, [fallen_by_hand(source, pins.bars, name) for _ in range(3)])
            self.assertIn(onto, standing)
            if name in standing:
                self.assertEqual(onto, name)
        weights = weights_of(pins)
        self.same(weights, tuple((name, tuple(one for one in NAMES if falls_on(pins, one) == name))
                                 for name in standing))
        self.assertEqual(sum(len(fallen) for _, fallen in weights), 27)
        told, many = WEIGHTS[pins.kind]
        self.assertEqual(sorted(len(fallen) for _, fallen in weights), told)
        self.assertEqual(sum(all(name in standing for name in six) for six in all_sixes()), many)
        for name, fallen in weights:
            self.assertEqual(list(fallen), turned_with(pins.bars, name))

    def test_the_seven_cases(self):
        source = Source(151)
        for name, surface in SURFACES:
            with self.subTest(name):
                self.check(source, surface.pins)
        for name, spots in shuffled(152):
            with self.subTest(name):
                self.check(source, Pins(spots))

    def test_facts(self):
        for name, surface in SURFACES:
            pins = surface.pins
            self.assertEqual(standing_names(pins)[:6], ("p0", "p1", "p2", "p3", "p4", "p5"))
            self.assertTrue(is_six([falls_on(pins, f"c{k}") for k in range(6)]))

    def test_known_falls(self):
        four = CORNERS.pins
        self.same(falls_on(four, "c0"), "p3")
        self.same(weights_of(four)[0], ("p0", ("p0", "j15", "j24", "c3")))
        self.same(standing_names(four), ("p0", "p1", "p2", "p3", "p4", "p5", "j03", "j14", "j25"))

    def test_errors(self):
        four = CORNERS.pins
        for value in NO_OBJECTS + (CORNERS,):
            for call in (standing_names, weights_of):
                self.refused(BadPins, "pins", call, value)
            for call in (is_standing, falls_on):
                self.refused(BadPins, "pins", call, value, "p0")
                self.refused(BadPins, "pins", call, value, "p6")
                self.refused(BadPins, "pins", call, name=None, pins=value)
        for value in NO_NAMES:
            for call in (is_standing, falls_on):
                self.refused(BadName, "name", call, four, value)

    def test_by_name(self):
        four = CORNERS.pins
        self.assertIs(is_standing(name="j03", pins=four), True)
        self.same(falls_on(name="c0", pins=four), "p3")
        self.same(standing_names(pins=four), standing_names(four))
        self.same(weights_of(pins=four), weights_of(four))


if __name__ == "__main__":
    unittest.main()

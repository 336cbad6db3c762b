"""Arrays as three planes less three planes: ways, and what shows them."""

import unittest
from math import gcd

from sixpins.check_ways import shows_way
from sixpins.classes import times_crossed
from sixpins.errors import BadForm, BadNames, BadSurface
from sixpins.names import all_arrays
from sixpins.papers import Denial, Paper
from sixpins.pins import Pins
from sixpins.planes import plane_of_trio
from sixpins.surface import Surface
from sixpins.ways import Alike, Way, way_of
from tests.samples import CORNERS, NO_NAMES, NO_SURFACES, PLAINEST, SURFACES, drawn_pins, shuffled
from tests.support import Case, ODD, Source, dotted, listed, scaled
from tests.test_check_lines import PARTS, truths
from tests.test_fans import wrong_forms
from tests.test_names import CLASSES, ways_by_hand
from tests.test_surface import cubic_at

# By the kind: how many arrays have lots that are alike.
ALIKE = {(): 0, (1,): 20, (1, 1): 36, (2,): 56, (1, 1, 1): 48, (1, 1, 1, 1): 56}

ROWS = (("p0", "j03", "c3"), ("j05", "j14", "j23"), ("c5", "j25", "p2"))

# The sum of two planes' products is three times this form: w0 w1 w2 + w3 w3 w3.
TENT = (0, 0, 0, 0, 0, 1) + (0,) * 13 + (1,)
TENT_WAY = (((1, 0, 0, 0), (0, 1, 0, 0), (0, 0, 1, 0)), ((0, 0, 0, 1),) * 3, 1, 1, 1)


def product_at(planes, place):
    """The product of the planes at a place."""
    told = 1
    for plane in planes:
        told *= dotted(plane, place)
    return told


def turned_lots(bars, rows):
    """Whether a turn leads the rows of an array to its columns, as lots of trios."""
    roots = list(bars)
    roots += [tuple(map(sum, zip(one, other))) for one in bars for other in bars if times_crossed(one, other) == 1]
    columns = {frozenset(CLASSES[name] for name in column) for column in zip(*rows)}
    return any({frozenset(turned(root, CLASSES[name]) for name in row) for row in rows} == columns for root in roots)


def turned(root, row):
    """The turn of a class."""
    many = times_crossed(root, row)
    return tuple(mine + many * its for mine, its in zip(row, root))


class WaysTest(Case):

    def check(self, surface, rows):
        """All that is told of an array; what is returned."""
        told = way_of(surface, rows)
        first = tuple(plane_of_trio(surface, row) for row in rows)
        second = tuple(plane_of_trio(surface, column) for column in zip(*rows))
        if sorted(first) == sorted(second):
            self.assertIs(type(told), Alike)
            self.assertIs(bool(told), False)
            self.same(told.planes, tuple(sorted(first)))
            self.assertIs(shows_way(surface.form, told), False)
            return told
        self.assertIs(type(told), Way)
        self.same((told.first, told.second), (first, second))
        self.assertEqual([type(number) for number in told.parts[2:]], [int] * 3)
        self.assertTrue(told.scale >= 1 and told.one != 0 and told.other != 0)
        self.assertEqual(gcd(told.scale, told.one, told.other), 1)
        source = Source(221)
        for _ in range(25):
            place = source.row(4, 8)
            self.assertEqual(told.scale * cubic_at(surface.form, place),
                             told.one * product_at(first, place) + told.other * product_at(second, place))
        self.assertIs(shows_way(surface.form, told), True)
        return told

    def test_the_seven_cases(self):
        for name, surface in SURFACES:
            alike = 0
            for rows in all_arrays():
                with self.subTest(name, rows=rows):
                    told = self.check(surface, rows)
                    alike += not told
                    self.assertEqual(not told, turned_lots(surface.pins.bars, rows))
            self.assertEqual(alike, ALIKE[surface.pins.kind])

    def test_other_orders_rows_and_changes(self):
        for name, spots in shuffled(222):
            surface = Surface(Pins(spots))
            told = [self.check(surface, rows) for rows in all_arrays()[::9]]
            self.assertTrue(any(told))

    def test_drawn_pins_with_six_digits(self):
        surface = Surface(drawn_pins(9))
        for rows in all_arrays()[::17]:
            self.assertTrue(self.check(surface, rows))

    def test_any_of_its_ways(self):
        for surface in (CORNERS, PLAINEST):
            for rows in all_arrays()[::29]:
                told = way_of(surface, rows)
                for way in ways_by_hand(rows)[::7]:
                    self.assertEqual(way_of(surface, listed(way)), told)

    def test_known_ways(self):
        way = way_of(CORNERS, ROWS)
        self.same(way.parts, (((0, 0, 0, 1), (0, 1, 0, 0), (1, 0, 0, 0)), ((0, 0, 1, 0), (1, 1, 2, 1), (0, 0, 1, 0)),
                              1, 1, -1))
        self.assertEqual(way_of(array=ROWS, surface=CORNERS), way)
        self.assertEqual(way_of(CORNERS, all_arrays()[0]), Alike([(0, 0, 1, 1), (0, 0, 1, 1), (0, 1, 2, 1)]))

    def test_papers(self):
        way = Way([1], [2], 3, 4, 5)
        self.assertEqual((way.word, bool(way)), ("way", True))
        self.same((way.first, way.second, way.scale, way.one, way.other), ((1,), (2,), 3, 4, 5))
        self.same(way.parts, ((1,), (2,), 3, 4, 5))
        self.assertEqual(Way(other=5, one=4, scale=3, second=(2,), first=[1]), way)
        self.assertNotIsInstance(way, Denial)
        alike = Alike([[1, 2], 3])
        self.assertEqual((alike.word, bool(alike)), ("alike", False))
        self.same((alike.planes, alike.parts), (((1, 2), 3), (((1, 2), 3),)))
        self.assertEqual(Alike(planes=((1, 2), 3)), alike)
        self.assertIsInstance(alike, Denial)

    def test_errors(self):
        for value in NO_SURFACES:
            self.refused(BadSurface, "surface", way_of, value, ROWS)
            self.refused(BadSurface, "surface", way_of, array=None, surface=value)
        wrong = [*ODD, 5, [], (), ROWS[:2], ROWS + ROWS[:1], ROWS[0], [ROWS], [ROWS[0]] * 3, "p0 j03 c3",
                 [ROWS[0], ROWS[1], ROWS[2][:2]], [ROWS[0], ROWS[1], ("c5", "p2", "j25")], [ROWS[0], ROWS[1], None],
                 [("p0", "j03", "c3"), ("j03", "c3", "p0"), ("c3", "p0", "j03")], {1: ROWS[0], 2: ROWS[1], 3: ROWS[2]}]
        wrong += [[ROWS[0], ROWS[1], ("c5", "j25", value)] for value in NO_NAMES]
        for value in wrong:
            self.refused(BadNames, "array", way_of, CORNERS, value)


class ShowsWayTest(Case):

    def shown(self, form, value, whether):
        self.assertIs(shows_way(form, value), whether)

    def test_planes_in_other_orders(self):
        # The order in each lot makes no difference to the product.
        for name, surface in SURFACES:
            way = next(told for told in (way_of(surface, rows) for rows in all_arrays()) if told)
            self.shown(surface.form, Way(way.first[::-1], way.second, *way.parts[2:]), True)
            self.shown(surface.form, Way(listed(way.first), listed(way.second[1:] + way.second[:1]), *way.parts[2:]), True)
            self.shown(surface.form, Way(way.second, way.first, way.scale, way.other, way.one), True)
            self.shown(list(surface.form), way, True)

    def test_one_thing_changed(self):
        for name, surface in SURFACES:
            form = surface.form
            for way in [told for told in (way_of(surface, rows) for rows in all_arrays()[::11]) if told]:
                first, second, scale, one, other = way.parts
                for parts in ((-scale, -one, -other), (2 * scale, 2 * one, 2 * other), (scale, -one, other),
                              (scale, one, -other), (scale + 1, one, other), (scale, one + 1, other), (0, one, other),
                              (scale, 0, other), (scale, one, 0), ((scale, 1), one, other), (scale, (one, 1), other),
                              (scale, float(one), other), (str(scale), one, other), (scale, one, None)):
                    self.shown(form, Way(first, second, *parts), False)
                self.shown(form, Way(second, first, scale, one, other), first == second)
                self.shown(form, Way(first, first, scale, one, other), False)
                for at in range(3):
                    for plane in (tuple(scaled(first[at], -1)), tuple(scaled(first[at], 2)), (1, 2, 3, 4), first[at][:3],
                                  first[at] + (0,), second[at], None, (0, 0, 0, 0)):
                        changed = first[:at] + (plane,) + first[at + 1:]
                        self.shown(form, Way(changed, second, scale, one, other), False)
                for lot in (first[:2], first + first[:1], [first], 7, "way", None):
                    self.shown(form, Way(lot, second, scale, one, other), False)
                    self.shown(form, Way(first, lot, scale, one, other), False)

    def test_a_form_times_a_number(self):
        way = way_of(CORNERS, ROWS)
        first, second, scale, one, other = way.parts
        self.shown(scaled(CORNERS.form, 3), way, False)
        self.shown(scaled(CORNERS.form, 3), Way(first, second, 1, 3, -3), True)
        self.shown(scaled(CORNERS.form, -1), Way(first, second, 1, -1, 1), True)
        self.shown(scaled(CORNERS.form, -1), way, False)
        for at in range(20):
            self.shown(CORNERS.form[:at] + (CORNERS.form[at] + 1,) + CORNERS.form[at + 1:], way, False)

    def test_forms_that_are_no_surface_of_pins(self):
        self.shown(TENT, Way(*TENT_WAY), True)
        self.shown(scaled(TENT, 2), Way(*TENT_WAY[:3], 2, 2), True)
        # Lots that are alike show nothing, though the sum is right.
        planes = TENT_WAY[0]
        form = (0,) * 5 + (1,) + (0,) * 14
        self.shown(form, Way(planes, planes[::-1], 1, 2, -1), False)
        self.shown(form, Way(planes, planes, 1, 2, -1), False)
        self.shown(form, Way(planes, TENT_WAY[1], 1, 1, 0), False)
        self.shown(form, Way(TENT_WAY[1], planes, 1, 0, 1), False)

    def test_true_and_false_are_no_integers(self):
        for form, way in ((CORNERS.form, way_of(CORNERS, ROWS)), (TENT, Way(*TENT_WAY))):
            told = truths(way.parts)
            self.assertGreater(len(told), 20)
            for parts in told:
                self.assertEqual(Way(*parts), way)
                self.shown(form, Way(*parts), False)

    def test_values_of_all_kinds(self):
        way = way_of(CORNERS, ROWS)
        for value in (*PARTS, CORNERS, way.parts, Paper("way", *way.parts), [way], Way, Alike(way.first)):
            self.shown(CORNERS.form, value, False)
            for at in range(5):
                parts = way.parts[:at] + (value,) + way.parts[at + 1:]
                self.shown(CORNERS.form, Way(*parts), type(value) is int and value == way.parts[at])
            self.shown(CORNERS.form, Way((value, *way.first[1:]), *way.parts[1:]), False)

    def test_errors(self):
        way = way_of(CORNERS, ROWS)
        for value in wrong_forms():
            self.refused(BadForm, "form", shows_way, value, way)
            self.refused(BadForm, "form", shows_way, value=None, form=value)
        self.assertIs(shows_way(value=way, form=CORNERS.form), True)


if __name__ == "__main__":
    unittest.main()

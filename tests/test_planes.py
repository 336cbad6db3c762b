"""The planes of trios."""

import unittest
from itertools import permutations

from sixpins.errors import BadNames, BadRow, BadSurface
from sixpins.falls import falls_on
from sixpins.forms import on_plane_of, value_of
from sixpins.lines import line_of, meeting_place
from sixpins.names import all_trios
from sixpins.pins import Pins
from sixpins.planes import joint_of_trio, plane_of_trio, told_planes, trios_in
from sixpins.space import in_plane, on_line, plane_basis
from sixpins.surface import Surface
from tests.samples import CORNERS, LONG, NO_NAMES, NO_SURFACES, PLAINEST, SURFACES, check_cut, drawn_pins, shuffled
from tests.support import Case, ODD, Source, listed, plain_by_hand, reduced_by_hand, scaled, sum_of, wrong_rows
from tests.test_lines import has
from tests.test_pins import changed

# By the kind: how many planes have each weight.
WEIGHTS = {(): {1: 45}, (1,): {1: 15, 2: 15}, (1, 1): {1: 3, 2: 13, 4: 4}, (2,): {1: 6, 3: 9, 6: 2},
           (1, 1, 1): {1: 1, 2: 6, 4: 6, 8: 1}, (1, 1, 1, 1): {1: 1, 2: 6, 8: 4}}

# Pins without bars of which the joins 01, 23 and 45 go through one spot.
JOINED = ((1, 0, 0), (0, 1, 0), (0, 0, 1), (1, 1, 1), (1, 2, 3), (4, 5, 3))


def no_trios():
    """Values of all kinds that are no trio."""
    told = [*ODD, 5, [], (), ("p0", "j01"), ("p0", "p1", "j01"), ("p0", "j01", "j01"), ("p0", "j01", "c0"),
            ("p0", "p0", "p0"), ("p0", "j01", "c1", "c1"), ("j01", "j23", "j24"), "p0 j01 c1", "p0", [("p0", "j01", "c1")],
            {"p0": 1, "j01": 2, "c1": 3}, {"p0", "j01", "c1"}, ("c0", "c1", "j23"), (0, 6, 22)]
    return told + [("p0", "j01", value) for value in NO_NAMES] + [(value, "j01", "c1") for value in NO_NAMES]


class PlanesTest(Case):

    def check(self, surface):
        """All that is told of the planes of a surface."""
        planes = {}
        for trio in all_trios():
            lines = [line_of(surface, name) for name in trio]
            plane = plane_of_trio(surface, trio)
            rows = reduced_by_hand([row for line in lines for row in line], 4)
            self.assertEqual(len(rows), 3)
            self.assertTrue(all(in_plane(line, plane) for line in lines))
            self.same(plane, plain_by_hand(plane))
            self.check_joint(surface, trio, lines)
            planes.setdefault(plane, []).append((trio, tuple(sorted(lines))))
        self.check_told(surface, planes)
        return planes

    def check_joint(self, surface, trio, lines):
        joint = joint_of_trio(surface, trio)
        if len(set(lines)) < 3:
            self.assertIsNone(joint)
            return
        place = meeting_place(surface, *[falls_on(surface.pins, name) for name in trio[:2]])
        if has(lines[2], place):
            self.same(joint, place)
            self.assertTrue(all(on_line(line, joint) for line in lines))
        else:
            self.assertIsNone(joint)

    def check_told(self, surface, planes):
        told = told_planes(surface)
        self.same([plane for plane, _, _ in told], sorted(planes))
        for plane, lines, weight in told:
            self.same(lines, planes[plane][0][1])
            self.assertEqual({its for _, its in planes[plane]}, {lines})
            self.same(weight, len(planes[plane]))
            self.same(trios_in(surface, plane), tuple(trio for trio, _ in planes[plane]))
            self.same(trios_in(surface, scaled(plane, -3)), trios_in(surface, plane))
        weights = [weight for _, _, weight in told]
        self.assertEqual({weight: weights.count(weight) for weight in weights}, WEIGHTS[surface.pins.kind])
        self.assertEqual(sum(weights), 45)

    def check_cuts(self, surface, planes):
        for plane, rows in planes.items():
            check_cut(self, surface.form, plane, rows[0][1])

    def test_the_seven_cases(self):
        for name, surface in SURFACES:
            with self.subTest(name):
                self.check_cuts(surface, self.check(surface))

    def test_other_orders_rows_and_changes(self):
        for name, spots in shuffled(211):
            with self.subTest(name):
                self.check(Surface(Pins(spots)))

    def test_drawn_pins_with_six_digits(self):
        self.check(Surface(drawn_pins(8)))

    def test_any_order(self):
        for name, surface in SURFACES[::2]:
            for trio in all_trios()[::5]:
                for order in permutations(trio):
                    self.same(plane_of_trio(surface, list(order)), plane_of_trio(surface, trio))
                    self.same(joint_of_trio(surface, list(order)), joint_of_trio(surface, trio))

    def test_planes_of_no_trio(self):
        source = Source(212)
        for name, surface in SURFACES:
            told = {plane for plane, _, _ in told_planes(surface)}
            for _ in range(5):
                plane = plain_by_hand(source.nonzero(4, 9))
                self.assertEqual(trios_in(surface, plane) == (), plane not in told)
        self.same(trios_in(CORNERS, (1, 0, 0, 1)), ())

    def test_known_planes(self):
        self.same(plane_of_trio(CORNERS, ["j03", "j14", "j25"]), (1, 1, 2, 1))
        self.same(told_planes(CORNERS)[0],
                  ((0, 0, 0, 1), (((1, 0, 0, 0), (0, 1, 0, 0)),) * 2 + (((2, 0, -1, 0), (0, 2, -1, 0)),), 2))
        self.same(trios_in(CORNERS, (0, 0, 0, -2)), (("p0", "j03", "c3"), ("j03", "j15", "j24")))


class JointTest(Case):

    def test_three_joins_through_one_spot(self):
        # The joins of 0 and 1, of 2 and 3, of 4 and 5 all have the spot (1, 1, 0).
        surface = Surface(Pins(JOINED))
        self.assertEqual(surface.pins.kind, ())
        joint = joint_of_trio(surface, ["j45", "j01", "j23"])
        self.same(joint, surface.place_of((1, 1, 0)))
        self.assertIsNone(joint_of_trio(surface, ["j02", "j13", "j45"]))
        led = changed(LONG, JOINED)
        long = Surface(Pins(led))
        self.same(joint_of_trio(long, ["j45", "j01", "j23"]), long.place_of(changed(LONG, [(1, 1, 0)])[0]))

    def test_a_join_that_touches_a_curve(self):
        # Pins 0 to 4 are on x z - y y, pin 5 is on the line that touches it at pin 4.
        spots = [(1, k, k * k) for k in range(5)]
        line = (16, -8, 1)
        spots.append((1, 1, -8))
        self.assertEqual([sum(a * b for a, b in zip(line, spots[at])) for at in (4, 5)], [0, 0])
        surface = Surface(Pins(spots))
        self.assertEqual(surface.pins.kind, ())
        self.same(joint_of_trio(surface, ["p4", "j45", "c5"]), surface.place_at(4, line))
        self.assertIsNone(joint_of_trio(surface, ["p3", "j35", "c5"]))

    def test_at_the_peak_of_two_bars(self):
        parted = SURFACES[4][1]
        self.same(joint_of_trio(parted, ["p0", "j01", "c1"]), (1, 0, 0, 0))
        self.same(joint_of_trio(parted, ["j03", "j14", "j25"]), (0, 2, 0, 1))
        self.assertIsNone(joint_of_trio(parted, ["p0", "j03", "c3"]))

    def test_with_bars(self):
        told = 0
        for name, surface in SURFACES[1:4]:
            for trio in all_trios():
                joint = joint_of_trio(surface, trio)
                if joint is not None:
                    told += 1
                    self.assertTrue(all(has(line_of(surface, one), joint) for one in trio))
        self.assertGreater(told, 0)

    def test_three_joins_through_one_spot_beside_a_bar(self):
        # Pins 0, 1, 2 in a line, and 3, 4, 5 in lines with these and with the spot (0, 0, 1).
        surface = Surface(Pins(((1, 0, 0), (0, 1, 0), (1, 1, 0), (1, 0, 1), (0, 1, 2), (1, 1, 5))))
        self.assertEqual(surface.pins.kind, (1,))
        self.same(joint_of_trio(surface, ["j03", "j14", "j25"]), surface.place_of((0, 0, 1)))

    def test_no_joint_off_the_form(self):
        for name, surface in SURFACES:
            for trio in all_trios():
                joint = joint_of_trio(surface, trio)
                if joint is not None:
                    self.assertEqual(value_of(surface.form, 4, 3, joint), 0)


class ErrorsTest(Case):

    def test_surface_first(self):
        for value in NO_SURFACES:
            self.refused(BadSurface, "surface", told_planes, value)
            for call in (plane_of_trio, joint_of_trio):
                self.refused(BadSurface, "surface", call, value, ("p0", "j01", "c1"))
                self.refused(BadSurface, "surface", call, trio=None, surface=value)
            self.refused(BadSurface, "surface", trios_in, value, (0, 0, 0, 0))

    def test_trios(self):
        for value in no_trios():
            for call in (plane_of_trio, joint_of_trio):
                self.refused(BadNames, "trio", call, CORNERS, value)

    def test_rows(self):
        for value in wrong_rows(4):
            self.refused(BadRow, "plane", trios_in, CORNERS, value)

    def test_by_name(self):
        trio = ["c1", "p0", "j01"]
        self.same(plane_of_trio(trio=trio, surface=PLAINEST), plane_of_trio(PLAINEST, trio))
        self.same(joint_of_trio(trio=trio, surface=PLAINEST), joint_of_trio(PLAINEST, trio))
        self.same(told_planes(surface=PLAINEST), told_planes(PLAINEST))
        self.same(trios_in(plane=[0, 0, 0, 1], surface=CORNERS), trios_in(CORNERS, (0, 0, 0, 1)))

    def test_the_form_in_a_plane_is_not_all_0(self):
        for name, surface in SURFACES:
            for plane, lines, _ in told_planes(surface):
                self.assertTrue(any(on_plane_of(surface.form, plane)))
                self.assertEqual(len(plane_basis(plane)), 3)
                self.assertEqual(listed(sum_of((1,), (plane,))), listed(plane))


if __name__ == "__main__":
    unittest.main()

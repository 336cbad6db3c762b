"""Pictures of how a plane of space cuts a surface."""

import unittest

from sixpins.errors import BadNumber, BadRow, BadSurface
from sixpins.lines import told_lines
from sixpins.peaks import touching_plane
from sixpins.pictures import picture
from sixpins.planes import told_planes
from sixpins.space import on_line, plane_basis
from sixpins.surface import Surface
from tests.samples import CORNERS, NO_SURFACES, PLAINEST, SURFACES, drawn_pins
from tests.support import Case, ODD_INTEGERS, Source, scaled, sum_of, wrong_rows
from tests.test_surface import cubic_at


def sign_by_hand(surface, row):
    """The sign of the cell with this row."""
    value = cubic_at(surface.form, row)
    if value:
        return "+" if value > 0 else "-"
    return "*" if any(on_line(line, row) for _, line, _ in told_lines(surface)) else "o"


class PictureTest(Case):

    def check(self, surface, plane, wide, high, under):
        """The picture, cell by cell; it is returned."""
        told = picture(surface, plane, wide, high, under)
        self.assertEqual((type(told), len(told)), (tuple, high))
        basis = plane_basis(plane)
        for row, signs in enumerate(told):
            self.assertEqual((type(signs), len(signs)), (str, wide))
            for column, sign in enumerate(signs):
                cell = sum_of((column - wide // 2, high // 2 - row, under), basis)
                self.assertEqual(sign, sign_by_hand(surface, cell))
        self.same(picture(surface, scaled(plane, -3), wide, high, under), told)
        return told

    def test_surfaces_and_drawn_planes(self):
        source, signs = Source(441), ""
        for name, surface in SURFACES:
            for _ in range(3):
                plane = source.nonzero(4, 3)
                wide, high, under = source.within(1, 9), source.within(1, 9), source.within(1, 4)
                with self.subTest(name, plane=plane):
                    signs += "".join(self.check(surface, plane, wide, high, under))
        self.assertEqual(set(signs), set("+-*"))

    def test_planes_with_lines(self):
        for name, surface in SURFACES:
            for plane, lines, weight in told_planes(surface)[::6]:
                with self.subTest(name, plane=plane):
                    told = self.check(surface, plane, 7, 7, 1)
                    self.assertNotIn("o", "".join(told))

    def test_planes_that_touch(self):
        # Spots of the surface that lie on no told line.
        for name, surface in SURFACES:
            place = surface.place_of((3, -4, 5))
            plane = touching_plane(surface, place)
            self.check(surface, plane, 5, 4, 2)
        told = [row for under in (1, 2, 3) for row in self.check(CORNERS, (1, -1, 0, 0), 9, 9, under)]
        self.assertIn("o", "".join(told))

    def test_one_row_and_one_column(self):
        for wide, high in ((1, 1), (1, 8), (8, 1), (1, 2), (2, 1), (2, 2)):
            self.check(CORNERS, (1, -1, 0, 0), wide, high, 2)

    def test_the_largest(self):
        told = self.check(PLAINEST, (3, -1, 2, 5), 60, 60, 7)
        self.assertEqual([len(row) for row in told], [60] * 60)
        self.check(PLAINEST, (3, -1, 2, 5), 3, 2, 9999)

    def test_six_digits(self):
        surface = Surface(drawn_pins(15))
        self.check(surface, (1, 2, 3, 4), 6, 5, 100)

    def test_known(self):
        self.same(picture(CORNERS, (0, 0, 1, 0), 3, 3, 1), ("-*+", "***", "+*-"))
        self.same(picture(under=2, high=3, wide=5, plane=[1, -1, 0, 0], surface=CORNERS), ("+*--o", "++*++", "++**+"))

    def test_errors(self):
        for value in NO_SURFACES:
            self.refused(BadSurface, "surface", picture, value, (1, 0, 0, 0), 3, 3, 1)
            self.refused(BadSurface, "surface", picture, value, None, None, None, None)
        for value in wrong_rows(4):
            self.refused(BadRow, "plane", picture, CORNERS, value, 3, 3, 1)
            self.refused(BadRow, "plane", picture, CORNERS, value, 0, 0, 0)
        for value in ODD_INTEGERS + (0, -1, 61):
            self.refused(BadNumber, "wide", picture, CORNERS, (1, 0, 0, 0), value, 3, 1)
            self.refused(BadNumber, "wide", picture, CORNERS, (1, 0, 0, 0), value, value, value)
            self.refused(BadNumber, "high", picture, CORNERS, (1, 0, 0, 0), 3, value, 0)
        for value in ODD_INTEGERS + (0, -1, 10_000):
            self.refused(BadNumber, "under", picture, CORNERS, (1, 0, 0, 0), 3, 3, value)


if __name__ == "__main__":
    unittest.main()

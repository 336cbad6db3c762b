"""What shows that no other line lies on a form: NoOther, shows_fan and shows_all."""

import unittest

from sixpins.check_lines import shows_all, shows_fan
from sixpins.errors import BadForm, BadRow, BadSurface
from sixpins.falls import standing_names
from sixpins.fans import Fan, fan_of
from sixpins.lines import line_of, told_lines
from sixpins.names import all_trios
from sixpins.noother import NoOther, no_other_line
from sixpins.papers import Denial, Paper
from sixpins.pins import Pins
from sixpins.space import plane_of
from sixpins.surface import Surface
from tests.samples import CORNERS, NO_SURFACES, PLAINEST, SURFACES, drawn_pins, shuffled
from tests.support import Case, ODD, Source, Thing, listed, scaled
from tests.test_fans import CONE, CUBE, EDGES, PLANES, RULED, TENT, wrong_forms
from tests.test_space import other_rows, wrong_lines

FACES = ((1, 0, 0, 0), (0, 1, 0, 0), (0, 0, 1, 0))
TENTS = tuple(Fan(EDGES[k], [(FACES[k], EDGES[k], EDGES[k])] * 2 + [((0, 0, 0, 1), EDGES[k - 1], EDGES[k - 2])] * 3, -1)
              for k in range(3))

# Values that may stand in the place of any part of a paper.
PARTS = ODD + (0, -1, 7, [], (), [1], (1, 2, 3), ((1, 0, 0, 0),), "plane", [[0, 0, 0, 0]], [None] * 3, [None] * 5,
               ((1, 0, 0, 0), (0, 1, 0, 0), (0, 0, 1, 0)), Fan(1, 2, 3), NoOther(1, 2, 3), [Fan(None, None, None)] * 3)


def lines_of(surface):
    """The told lines of a surface."""
    return [line for _, line, _ in told_lines(surface)]


def truths(value):
    """Copies of a value with True, False or a number with a point in the place of one integer that is equal to it."""
    if type(value) is int:
        return ([bool(value)] if value in (0, 1) else []) + [float(value)] * (abs(value) < 1000)
    told = []
    if type(value) is tuple:
        for at, part in enumerate(value):
            told += [value[:at] + (other,) + value[at + 1:] for other in truths(part)]
    return told


class ShowsFanTest(Case):

    def shown(self, form, value, whether):
        self.assertIs(shows_fan(form, value), whether)

    def test_fans_of_surfaces(self):
        source = Source(191)
        for name, surface in SURFACES:
            for one in standing_names(surface.pins):
                with self.subTest(name, one=one):
                    fan = fan_of(surface, one)
                    self.shown(surface.form, fan, True)
                    order = sorted(fan.fives, key=lambda five: source.below(100))
                    turned = [(plane, two, first) if source.below(2) else (plane, first, two)
                              for plane, first, two in order]
                    self.shown(listed(surface.form), Fan(listed(fan.line), listed(turned), fan.scale), True)

    def test_six_digits(self):
        for name, spots in shuffled(192):
            surface = Surface(Pins(spots))
            for one in standing_names(surface.pins)[::4]:
                self.shown(surface.form, fan_of(surface, one), True)

    def test_another_scale_or_form(self):
        for name, surface in SURFACES:
            fan = fan_of(surface, "p1")
            for scale in (-fan.scale, 2 * fan.scale, fan.scale + 1, 0, str(fan.scale), (fan.scale, 1), float(fan.scale)):
                self.shown(surface.form, Fan(fan.line, fan.fives, scale), False)
            self.shown(scaled(surface.form, -1), fan, False)
            self.shown(scaled(surface.form, -1), Fan(fan.line, fan.fives, -fan.scale), True)
            self.shown(scaled(surface.form, 3), Fan(fan.line, fan.fives, 27 * fan.scale), True)
            for at in range(20):
                form = list(surface.form)
                form[at] += 1
                self.shown(form, fan, False)

    def test_changed_fives(self):
        for name, surface in SURFACES:
            fan, further = fan_of(surface, "p2"), fan_of(surface, "p3")
            self.shown(surface.form, Fan(further.line, fan.fives, fan.scale), False)
            self.shown(surface.form, Fan(fan.line, further.fives, fan.scale), False)
            for at in range(5):
                five = fan.fives[at]
                rest = fan.fives[:at] + fan.fives[at + 1:]
                self.shown(surface.form, Fan(fan.line, rest, fan.scale), False)
                self.shown(surface.form, Fan(fan.line, rest + (five, five), fan.scale), False)
                for other in ((five[0], five[1], further.line), (five[0], five[1]), five + five[:1],
                              (tuple(scaled(five[0], -1)), *five[1:]), (tuple(scaled(five[0], 2)), *five[1:]),
                              (further.fives[at][0], *five[1:]), (five[0], five[1], five[2][::-1]),
                              (five[0], five[1], (five[2][0], tuple(scaled(five[2][1], 2)))), (five[1], five[0], five[2])):
                    if other != five:
                        self.shown(surface.form, Fan(fan.line, rest + (other,), fan.scale), False)

    def test_a_five_told_twice_for_another_that_is_like_it(self):
        fan = fan_of(CORNERS, "p0")
        twice = (fan.fives[0], fan.fives[0], *fan.fives[2:])
        self.shown(CORNERS.form, Fan(fan.line, twice, 1), True)
        self.shown(CORNERS.form, Fan(fan.line, (fan.fives[0], *fan.fives[:4]), 1), False)

    def test_forms_that_are_no_surface_of_pins(self):
        for fan in TENTS:
            self.shown(TENT, fan, True)
            self.shown(TENT, Fan(fan.line, fan.fives[::-1], -1), True)
            self.shown(TENT, Fan(fan.line, fan.fives, 1), False)

    def test_endlessly_many_lines(self):
        line = ((0, 1, 0, 0), (0, 0, 0, 1))
        for form in (PLANES, CUBE):
            for scale in (0, 1):
                self.shown(form, Fan(line, [((1, 0, 0, 0), line, line)] * 5, scale), False)
                self.shown(form, Fan(line, [((0, 0, 1, 0), line, line)] * 5, scale), False)

    def test_true_and_false_are_no_integers(self):
        for fan in (fan_of(CORNERS, "p0"), TENTS[0]):
            form = CORNERS.form if fan.scale == 1 else TENT
            self.shown(form, fan, True)
            told = truths(fan.parts)
            self.assertGreater(len(told), 50)
            for parts in told:
                self.assertEqual(Fan(*parts), fan)
                self.shown(form, Fan(*parts), False)

    def test_values_of_all_kinds(self):
        fan = fan_of(CORNERS, "p0")
        for value in (*PARTS, CORNERS, CORNERS.form, fan.parts, list(fan.parts), Paper("fan", *fan.parts),
                      NoOther(*fan.parts), [fan], Fan):
            self.shown(CORNERS.form, value, False)
        for value in PARTS:
            self.shown(CORNERS.form, Fan(value, fan.fives, fan.scale), False)
            self.shown(CORNERS.form, Fan(fan.line, value, fan.scale), False)
            for at in range(3):
                five = fan.fives[0][:at] + (value,) + fan.fives[0][at + 1:]
                self.shown(CORNERS.form, Fan(fan.line, (five, *fan.fives[1:]), fan.scale), False)
            self.shown(CORNERS.form, Fan(fan.line, (value, *fan.fives[1:]), fan.scale), False)
            self.shown(CORNERS.form, Fan(fan.line, fan.fives, value), False)

    def test_errors(self):
        fan = fan_of(CORNERS, "p0")
        for value in wrong_forms():
            self.refused(BadForm, "form", shows_fan, value, fan)
            self.refused(BadForm, "form", shows_fan, value=None, form=value)
        self.assertIs(shows_fan(value=fan, form=CORNERS.form), True)


class ShowsAllTest(Case):

    def shown(self, form, lines, value, whether):
        self.assertIs(shows_all(form, lines, value), whether)

    def check(self, source, surface):
        """A NoOther of a surface is shown, with all in any order."""
        lines = lines_of(surface)
        told = no_other_line(surface)
        self.assertIs(type(told), NoOther)
        self.assertTrue(all(type(fan) is Fan for fan in told.fans))
        self.assertEqual(len(told.lines), 3)
        self.shown(surface.form, lines, told, True)
        drawn = sorted(lines, key=lambda line: source.below(100))
        turned = NoOther(listed(told.plane), told.lines[::-1], list(told.fans[::-1]))
        self.shown(list(surface.form), [other_rows(source, line) for line in drawn], turned, True)
        self.assertEqual(no_other_line(Surface(Pins(listed(surface.pins.spots)))), told)
        return lines, told

    def test_the_seven_cases(self):
        source = Source(201)
        for name, surface in SURFACES:
            with self.subTest(name):
                lines, told = self.check(source, surface)
                self.check_lists(surface, lines, told)
                self.check_papers(surface, lines, told)

    def test_other_orders_rows_and_changes(self):
        source = Source(202)
        for name, spots in shuffled(203):
            with self.subTest(name):
                self.check(source, Surface(Pins(spots)))

    def test_drawn_pins_with_six_digits(self):
        self.check(Source(204), Surface(drawn_pins(7)))

    def check_lists(self, surface, lines, told):
        """A line left out, put in twice, or another one in its place."""
        for at, line in enumerate(lines):
            rest = lines[:at] + lines[at + 1:]
            needed = line in told.lines or any(line in five for fan in told.fans for five in fan.fives)
            self.shown(surface.form, rest, told, not needed)
            self.shown(surface.form, lines + [line], told, False)
            self.shown(surface.form, lines + [(line[1], line[0])], told, False)
            self.shown(surface.form, rest + [((1, 2, 3, 4), (4, 3, 2, 2))], told, False)
        self.shown(surface.form, lines + [((1, 2, 3, 4), (4, 3, 2, 2))], told, False)
        self.shown(surface.form, [], told, False)
        self.shown(surface.form, told.lines, told, False)

    def check_papers(self, surface, lines, told):
        """A fan left out, told twice or of another line; another plane, another line, another form."""
        form, names = surface.form, standing_names(surface.pins)
        others = [fan for fan in [fan_of(surface, name) for name in names] if fan.line not in told.lines]
        for at in range(len(told.fans)):
            rest = told.fans[:at] + told.fans[at + 1:]
            for fans in (rest, rest + (others[0],), told.fans + (told.fans[at],), rest + (rest or told.fans)[:1] * 2,
                         told.fans + (others[0],), told.fans[at]):
                self.shown(form, lines, NoOther(told.plane, told.lines, fans), False)
            bad = Fan(told.fans[at].line, told.fans[at].fives, 2 * told.fans[at].scale)
            self.shown(form, lines, NoOther(told.plane, told.lines, rest + (bad,)), False)
        for plane in (others[0].fives[0][0], (1, 2, 3, 4), tuple(scaled(told.plane, -1)), tuple(scaled(told.plane, 2))):
            if plane != told.plane:
                self.shown(form, lines, NoOther(plane, told.lines, told.fans), False)
        for at in range(3):
            changed = told.lines[:at] + (others[0].line,) + told.lines[at + 1:]
            self.shown(form, lines, NoOther(told.plane, changed, told.fans), False)
        for its in (told.lines[:2], told.lines + told.lines[:1], (told.lines[0],) * 3, told.lines[0]):
            if its != told.lines:
                self.shown(form, lines, NoOther(told.plane, its, told.fans), False)
        for at in range(20):
            self.shown(form[:at] + (form[at] + 1,) + form[at + 1:], lines, told, False)
        self.shown(scaled(form, -1), lines, told, False)

    def test_any_trio_gives_one(self):
        for name, surface in SURFACES[1::2]:
            fans = {line_of(surface, one): fan_of(surface, one) for one in standing_names(surface.pins)}
            for trio in all_trios()[::4]:
                lines = [line_of(surface, one) for one in trio]
                unlike = list(dict.fromkeys(lines))
                told = NoOther(plane_of(*unlike[:2]), lines, [fans[line] for line in unlike])
                self.shown(surface.form, lines_of(surface), told, True)

    def test_a_line_twice_in_the_plane(self):
        # The plane w3 = 0 cuts out p0 twice and j03 once.
        fans = [fan_of(CORNERS, name) for name in ("p0", "j03")]
        once, twice = fans[1].line, fans[0].line
        lines = lines_of(CORNERS)
        for told in ([twice, twice, once], [twice, once, twice], [once, twice, twice]):
            self.shown(CORNERS.form, lines, NoOther((0, 0, 0, 1), told, fans), True)
        self.shown(CORNERS.form, lines, NoOther((0, 0, 0, 1), [twice, once, once], fans), False)
        self.shown(CORNERS.form, lines, NoOther((0, 0, 0, 1), [twice, twice, once], [fans[0]] + fans), False)

    def test_forms_that_are_no_surface_of_pins(self):
        self.shown(TENT, EDGES, NoOther((0, 0, 0, 1), EDGES, TENTS), True)
        self.shown(TENT, EDGES[:2], NoOther((0, 0, 0, 1), EDGES, TENTS), False)
        self.shown(TENT, EDGES, NoOther((1, 0, 0, 0), [EDGES[0]] * 3, TENTS[:1]), True)
        self.shown(TENT, EDGES[:1], NoOther((1, 0, 0, 0), [EDGES[0]] * 3, TENTS[:1]), False)

    def test_endlessly_many_lines(self):
        line = ((0, 1, 0, 0), (0, 0, 0, 1))
        fan = Fan(line, [((1, 0, 0, 0), line, line)] * 5, 1)
        for form in (PLANES, CUBE):
            self.shown(form, [line], NoOther((1, 0, 0, 0), [line] * 3, [fan]), False)
            self.shown(form, [line], NoOther((0, 0, 1, 0), [line] * 3, [fan]), False)
        for form, its in ((CONE, ((1, -1, 0, 0), (0, 0, 0, 1))), (RULED, ((0, 0, 1, 0), (0, 0, 0, 1)))):
            bare = Fan(its, [((1, 1, 0, 0), its, its)] * 5, 1)
            self.shown(form, [its], NoOther((1, 1, 0, 0), [its] * 3, [bare]), False)

    def test_true_and_false_are_no_integers(self):
        lines, told = lines_of(CORNERS), no_other_line(CORNERS)
        self.shown(CORNERS.form, lines, told, True)
        for parts in truths((told.plane, told.lines)):
            self.shown(CORNERS.form, lines, NoOther(*parts, told.fans), False)
        for parts in truths(told.fans[0].parts):
            self.shown(CORNERS.form, lines, NoOther(told.plane, told.lines, (Fan(*parts), *told.fans[1:])), False)

    def test_values_of_all_kinds(self):
        lines, told = lines_of(CORNERS), no_other_line(CORNERS)
        for value in (*PARTS, CORNERS, told.parts, list(told.parts), Paper("noother", *told.parts), [told], NoOther,
                      Fan(*told.parts)):
            self.shown(CORNERS.form, lines, value, False)
            self.shown(CORNERS.form, lines, NoOther(value, told.lines, told.fans), False)
            self.shown(CORNERS.form, lines, NoOther(told.plane, value, told.fans), False)
            self.shown(CORNERS.form, lines, NoOther(told.plane, told.lines, value), False)
            self.shown(CORNERS.form, lines, NoOther(told.plane, told.lines, (value, *told.fans[1:])), False)
            self.shown(CORNERS.form, lines, NoOther(told.plane, (value, *told.lines[1:]), told.fans), False)

    def test_errors(self):
        lines, told = lines_of(CORNERS), no_other_line(CORNERS)
        for value in wrong_forms():
            self.refused(BadForm, "form", shows_all, value, lines, told)
            self.refused(BadForm, "form", shows_all, value, None, None)
        for value in ODD + (3, lines[0], [lines[0][0]], [None], [7], Thing(), told):
            self.refused(BadRow, "lines", shows_all, CORNERS.form, value, told)
            self.refused(BadRow, "lines", shows_all, value=None, lines=value, form=CORNERS.form)
        for value in wrong_lines():
            self.refused(BadRow, "lines", shows_all, CORNERS.form, [value], told)
            self.refused(BadRow, "lines", shows_all, CORNERS.form, [*lines, value], None)
        self.assertIs(shows_all(value=told, lines=tuple(lines), form=CORNERS.form), True)


class NoOtherTest(Case):

    def test_paper(self):
        told = NoOther([1, 2], [[3]], [4])
        self.assertEqual((told.word, bool(told)), ("noother", True))
        self.same((told.plane, told.lines, told.fans), ((1, 2), ((3,),), (4,)))
        self.same(told.parts, (told.plane, told.lines, told.fans))
        self.assertEqual(NoOther(fans=[4], lines=[(3,)], plane=(1, 2)), told)
        self.assertNotIsInstance(told, Denial)

    def test_lines_are_those_of_a_plane(self):
        for name, surface in SURFACES:
            told = no_other_line(surface)
            self.assertTrue(set(told.lines) <= set(lines_of(surface)))
            self.assertEqual({fan.line for fan in told.fans}, set(told.lines))
            self.assertEqual(len(told.fans), len(set(told.lines)))

    def test_errors(self):
        for value in NO_SURFACES:
            self.refused(BadSurface, "surface", no_other_line, value)
        self.assertEqual(no_other_line(surface=PLAINEST), no_other_line(PLAINEST))


if __name__ == "__main__":
    unittest.main()

"""Surfaces that come down to other pins, and renamings that a change of space does."""

import unittest
from itertools import permutations

from sixpins.changes import changed_form, judged_flat, led_line, led_pins, settled_pins
from sixpins.downs import Down, Fallen, Move, judged_down, judged_move
from sixpins.errors import BadRenaming, BadSurface
from sixpins.falls import is_standing, standing_names
from sixpins.forms import slope_of
from sixpins.lines import line_of
from sixpins.names import all_names, all_sixes
from sixpins.pins import Pins
from sixpins.renamings import Renaming, pins_swapped, pins_turned, six_exchanged
from sixpins.surface import Surface
from sixpins.tables import multiplied, plain_table, undone
from tests.samples import CORNERS, NO_OBJECTS, NO_SURFACES, PLAINEST, SURFACES, drawn_pins, shuffled
from tests.support import Case, Source, dotted, plain_by_hand, value_by_hand
from tests.test_changes import FRAME, frame_by_hand, plain_by_hand_table
from tests.test_names import CLASSES
from tests.test_pins import CASES
from tests.test_surface import spots_of
from tests.test_tables import unit

PINS = all_names()[:6]
WHOLE = six_exchanged(PINS)
TURN = pins_turned(0, 1, 2)
MANY_STANDING = {(): 72, (1,): 21, (1, 1): 6, (2,): 1, (1, 1, 1): 2, (1, 1, 1, 1): 1}
NO_RENAMINGS = NO_OBJECTS + (PINS, list(PINS), " ".join(PINS), Renaming, ("01",), CORNERS)


def in_drawn_order(source, six):
    """The six in a drawn order."""
    left, told = list(six), []
    while left:
        told.append(left.pop(source.below(len(left))))
    return tuple(told)


def standing_sixes(surface):
    """The sixes of which all names stand."""
    standing = standing_names(surface.pins)
    return [six for six in all_sixes() if all(name in standing for name in six)]


def times_zero(form, degree, spot):
    """How often a form is 0 at a spot: how many times slopes are taken until one is not 0 there."""
    forms, order = [form], 0
    while not any(value_by_hand(one, 3, degree - order, spot) for one in forms):
        forms = [slope_of(one, 3, degree - order, letter) for one in forms for letter in range(3)]
        order += 1
    return order


class DownTest(Case):

    def check(self, surface, six, source):
        """All that is told of what the renaming of a six that stands comes down to; it is returned."""
        renaming = Renaming(six)
        told = judged_down(surface, renaming)
        self.assertIs(type(told), Down)
        self.assertIs(bool(told), True)
        row = renaming.led_class((1, 0, 0, 0, 0, 0, 0))
        self.same(told.degree, row[0])
        self.assertLessEqual(told.degree, 5)
        self.check_pins(surface, told)
        self.check_forms(surface, told, row)
        self.check_spots(source, surface, told)
        self.check_space(surface, renaming, told)
        return told

    def check_pins(self, surface, told):
        self.assertIs(type(told.pins), Pins)
        self.same(tuple(told.pins.spots[pin] for pin in frame_by_hand(told.pins.spots)), FRAME)
        self.assertEqual(settled_pins(told.pins).change, unit(3))
        self.assertEqual((told.pins.kind, len(told.pins.bars)), (surface.pins.kind, len(surface.pins.bars)))

    def check_forms(self, surface, told, row):
        many = (told.degree + 1) * (told.degree + 2) // 2
        self.assertEqual([len(form) for form in told.forms], [many] * 3)
        whole = tuple(number for form in told.forms for number in form)
        self.same(whole, plain_by_hand(whole))
        self.assertEqual(len(told.forms), 3)
        for spot, times in zip(surface.pins.spots, row[1:]):
            least = min(times_zero(form, told.degree, spot) for form in told.forms)
            self.assertEqual(least > 0, times > 0)
            self.assertGreaterEqual(least, times)

    def check_spots(self, source, surface, told):
        later = Surface(told.pins)
        for spot in spots_of(source, surface.pins)[::3]:
            image = [value_by_hand(form, 3, told.degree, spot) for form in told.forms]
            self.assertTrue(any(image))
            if plain_by_hand(image) not in told.pins:
                place = surface.place_of(spot)
                self.same(plain_by_hand([dotted(row, place) for row in told.change]), later.place_of(image))

    def check_space(self, surface, renaming, told):
        later = Surface(told.pins)
        self.same(told.change, plain_by_hand_table(told.change))
        self.same(changed_form(surface.form, told.change), later.form)
        for name in all_names():
            picture = renaming.led_name(name)
            self.assertEqual(is_standing(told.pins, name), is_standing(surface.pins, picture))
            self.same(led_line(told.change, line_of(surface, picture)), line_of(later, name))

    def test_sixes_that_stand_in_drawn_orders(self):
        source = Source(331)
        for name, surface in SURFACES:
            sixes = standing_sixes(surface)
            self.assertEqual(len(sixes), MANY_STANDING[surface.pins.kind])
            for at in range(0, len(sixes), 1 + len(sixes) // 5):
                six = in_drawn_order(source, sixes[at])
                with self.subTest(name, six=six):
                    self.check(surface, six, source)

    def test_all_72_sixes(self):
        source = Source(332)
        for name, surface in SURFACES:
            standing, many = standing_names(surface.pins), 0
            for six in all_sixes():
                six = in_drawn_order(source, six)
                told = judged_down(surface, Renaming(six))
                fallen = [one for one in six if one not in standing]
                if fallen:
                    self.assertEqual(told, Fallen(fallen[0]))
                    self.same(told.parts, (fallen[0],))
                    self.assertIs(bool(told), False)
                else:
                    self.assertEqual((told.pins.kind, told.degree == 1), (surface.pins.kind, set(six) == set(PINS)))
                    self.same(changed_form(surface.form, told.change), Surface(told.pins).form)
                    many += 1
            self.assertEqual(many, MANY_STANDING[surface.pins.kind])

    def test_other_orders_rows_and_changes(self):
        source = Source(333)
        for name, spots in shuffled(334):
            surface = Surface(Pins(spots))
            sixes = standing_sixes(surface)
            with self.subTest(name):
                self.check(surface, in_drawn_order(source, sixes[source.below(len(sixes))]), source)

    def test_six_digits(self):
        source = Source(335)
        surface = Surface(drawn_pins(6))
        told = self.check(surface, WHOLE.six, source)
        # What comes down may come down again.
        self.check(Surface(told.pins), in_drawn_order(source, all_sixes()[40]), source)

    def test_one_behind_another(self):
        source = Source(336)
        for name, surface in SURFACES:
            for _ in range(4):
                sixes = standing_sixes(surface)
                first = Renaming(in_drawn_order(source, sixes[source.below(len(sixes))]))
                one = judged_down(surface, first)
                later = Surface(one.pins)
                sixes = standing_sixes(later)
                second = Renaming(in_drawn_order(source, sixes[source.below(len(sixes))]))
                other = judged_down(later, second)
                both = judged_down(surface, first * second)
                with self.subTest(name, first=first.six, second=second.six):
                    self.assertEqual(both.pins, other.pins)
                    self.same(both.change, plain_table(multiplied(other.change, one.change)))
                    back = judged_down(later, first.undone())
                    settled = settled_pins(surface.pins)
                    self.assertEqual(back.pins, settled.pins)

    def test_still(self):
        for name, surface in SURFACES:
            told = judged_down(surface, Renaming.still())
            settled = settled_pins(surface.pins)
            self.assertEqual((told.pins, told.degree), (settled.pins, 1))
            self.same(told.forms, settled.change)

    def test_pins_exchanged(self):
        source = Source(337)
        for name, surface in SURFACES:
            order = in_drawn_order(source, range(6))
            told = judged_down(surface, Renaming([PINS[pin] for pin in order]))
            settled = settled_pins(Pins([surface.pins.spots[pin] for pin in order]))
            self.assertEqual((told.pins, told.degree), (settled.pins, 1))
            self.same(told.forms, settled.change)

    def test_known(self):
        told = judged_down(renaming=TURN, surface=PLAINEST)
        self.same(told.pins.spots, FRAME + ((6, 3, 2), (6, 2, 3)))
        self.same((told.degree, told.forms), (2, ((0, 0, 0, 0, 1, 0), (0, 0, 1, 0, 0, 0), (0, 1, 0, 0, 0, 0))))
        hill = SURFACES[2][1]
        self.assertEqual(judged_down(hill, WHOLE), Fallen("c0"))
        self.same(judged_down(hill, TURN).pins.bars, ((1, 0, 0, 0, 1, 1, 1),))
        self.same(judged_down(hill, TURN).change, ((4, -424, 984, -232), (0, -32, 64, -24), (1, -112, 252, -58),
                                                   (0, -8, 12, -4)))

    def test_errors(self):
        for call in (judged_down, judged_move):
            for value in NO_SURFACES:
                self.refused(BadSurface, "surface", call, value, TURN)
                self.refused(BadSurface, "surface", call, value, value)
            for value in NO_RENAMINGS:
                self.refused(BadRenaming, "renaming", call, CORNERS, value)


class MoveTest(Case):

    def check(self, surface, renaming):
        """What is told of a renaming, by what it comes down to; it is returned."""
        told, down = judged_move(surface, renaming), judged_down(surface, renaming)
        if not down:
            self.assertEqual(told, down)
            return told
        flat = judged_flat(surface.pins, down.pins)
        if not flat:
            self.assertEqual(told, flat)
            self.assertIs(type(told), type(flat))
            return told
        self.assertIs(type(told), Move)
        self.same(told.change, plain_by_hand_table(told.change))
        self.same(changed_form(surface.form, told.change), surface.form)
        for name in standing_names(surface.pins):
            picture = renaming.led_name(name)
            self.assertIs(is_standing(surface.pins, picture), True)
            self.same(led_line(told.change, line_of(surface, name)), line_of(surface, picture))
        return told

    def test_corners_of_four_lines(self):
        # All 24 exchanges of the four lines are done by changes of the plane, and so of space.
        moves = {}
        for order in permutations(range(6)):
            renaming = Renaming([PINS[pin] for pin in order])
            told = self.check(CORNERS, renaming)
            if told:
                moves[renaming.six] = told.change
        self.assertEqual(len(moves), 24)
        for one in list(moves)[::5]:
            for other in list(moves)[::3]:
                both = (Renaming(one) * Renaming(other)).six
                self.same(plain_table(multiplied(moves[one], moves[other])), moves[both])
            self.same(undone(moves[one]), moves[Renaming(one).undone().six])
        self.same(moves[PINS], unit(4))

    def test_drawn_renamings(self):
        source, words = Source(341), []
        for name, surface in SURFACES:
            sixes = standing_sixes(surface)
            for at in range(12):
                six = sixes[source.below(len(sixes))] if at % 3 else all_sixes()[source.below(72)]
                words.append(self.check(surface, Renaming(in_drawn_order(source, six))).word)
            self.assertEqual(self.check(surface, Renaming.still()), Move(unit(4)))
        self.assertEqual(sorted(set(words)), ["fallen", "move", "noflat", "unlike"])

    def test_pins_that_a_change_turns_round(self):
        turn = ((0, 0, 1), (1, 0, 0), (0, 1, 0))
        spots = [(1, 2, 5), (1, 3, -2)]
        for _ in range(2):
            spots += [tuple(dotted(row, spot) for row in turn) for spot in spots[-2:]]
        pins = Pins(spots)
        surface = Surface(pins)
        order = (2, 3, 4, 5, 0, 1)
        self.assertEqual(led_pins(pins, turn), Pins([pins.spots[pin] for pin in order]))
        told = self.check(surface, Renaming([PINS[pin] for pin in order]))
        self.assertIs(type(told), Move)
        self.same(plain_table(multiplied(told.change, multiplied(told.change, told.change))), unit(4))
        further = self.check(surface, Renaming([PINS[pin] for pin in order]) * Renaming([PINS[pin] for pin in order]))
        self.same(further.change, plain_table(multiplied(told.change, told.change)))
        self.assertEqual(self.check(surface, pins_swapped(0, 2)).word, "noflat")

    def test_turns_at_bars_are_done_by_no_change(self):
        for name, surface in SURFACES:
            for bar in surface.pins.bars:
                if bar[0] == 1:
                    told = self.check(surface, pins_turned(*[pin for pin in range(6) if bar[pin + 1]]))
                    self.assertIs(type(told), Fallen)

    def test_a_turn_that_a_change_does(self):
        # The turn at the first three pins leads pin 4 to pin 5 and back: y z, x z, x y.
        pins = Pins([*FRAME, (2, 3, 6), (3, 2, 1)])
        renaming = pins_turned(0, 1, 2) * pins_swapped(4, 5)
        told = self.check(Surface(pins), renaming)
        self.assertIs(type(told), Move)
        self.same(plain_table(multiplied(told.change, told.change)), unit(4))
        self.same(judged_down(Surface(pins), renaming).pins.spots, pins.spots)

    def test_known(self):
        self.assertEqual(judged_move(PLAINEST, TURN).parts, (4, (1, 2, 3), (6, 3, 2)))
        mirror = judged_move(renaming=Renaming(["p1", "p0", "p2", "p4", "p3", "p5"]), surface=CORNERS)
        self.same(mirror.change, ((1, 0, 0, 0), (0, 0, 0, 1), (0, 0, 1, 0), (0, 1, 0, 0)))
        self.assertEqual(judged_move(CORNERS, pins_swapped(0, 1)).parts, ((0, 2, 3),))
        self.assertEqual(judged_move(CORNERS, pins_turned(1, 2, 3)), Fallen("j23"))

    def test_pins_led_by_a_change_have_the_same_moves(self):
        for name, spots, _, _ in CASES[4:]:
            one, other = Surface(Pins(spots)), Surface(led_pins(Pins(spots), ((1, 2, 3), (0, 1, 4), (5, 6, 0))))
            for order in list(permutations(range(6)))[::37]:
                renaming = Renaming([PINS[pin] for pin in order])
                self.assertEqual(self.check(one, renaming).word, self.check(other, renaming).word)


class FactsTest(Case):

    def test_degrees(self):
        # The degree by how often the names of the six go through the pins, over all sixes.
        many = {}
        for six in all_sixes():
            degree = Renaming(six).led_class((1, 0, 0, 0, 0, 0, 0))[0]
            self.assertEqual(3 * degree, 3 + sum(CLASSES[name][0] for name in six))
            many[degree] = many.get(degree, 0) + 1
        self.assertEqual(many, {1: 1, 2: 20, 3: 30, 4: 20, 5: 1})


if __name__ == "__main__":
    unittest.main()

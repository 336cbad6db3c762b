"""A desk: deeds, undone, and many of them at once."""

import unittest

from sixpins.desk import Desk
from sixpins.downs import Down, Fallen, judged_down
from sixpins.errors import BadNumber, BadPins, BadRow, Misfit, NoPins, NoStroke, PinError
from sixpins.pins import InLine, Pins, Same
from sixpins.renamings import pins_turned
from sixpins.strokes import Still, Stroke
from sixpins.surface import Surface
from tests.samples import CORNERS, NO_OBJECTS, SURFACES
from tests.support import Case, ODD, ODD_INTEGERS, Source, wrong_rows
from tests.test_pins import FOUR, SMOOTH
from tests.test_strokes import put


def swapped(pins, one, other):
    """The pins with two of them exchanged."""
    spots = list(pins.spots)
    spots[one], spots[other] = spots[other], spots[one]
    return Pins(spots)


class DeskCase(Case):

    def lies(self, desk, pins, deeds):
        """What lies on the desk."""
        self.assertEqual(desk.pins, pins)
        self.assertIs(type(desk.pins), Pins)
        self.assertEqual(desk.surface, Surface(pins))
        self.same(desk.surface.form, Surface(pins).form)
        self.same(desk.deeds, deeds)

    def raised(self, expected, call, *args):
        """The call raises an error just like this one."""
        with self.assertRaises(PinError) as caught:
            call(*args)
        self.assertIs(type(caught.exception), type(expected))
        self.assertEqual(vars(caught.exception), vars(expected))


class DeedsTest(DeskCase):

    def test_push(self):
        for name, surface in SURFACES:
            desk = Desk(surface.pins)
            self.lies(desk, surface.pins, 0)
            told = desk.push(4, [14, -22, 6])
            self.assertEqual(told, Stroke(surface.pins, 4, (7, -11, 3)))
            later = Pins(put(surface.pins, 4, (7, -11, 3)))
            self.lies(desk, later, 1)
            self.assertEqual(desk.push(to=(1, 9, -8), pin=0), Stroke(later, 0, (1, 9, -8)))
            self.assertEqual(desk.deeds, 2)

    def test_turn(self):
        for name, surface in SURFACES:
            for three in ((0, 1, 2), (3, 4, 5), (5, 0, 3), (1, 4, 2)):
                desk = Desk(surface.pins)
                told, expected = desk.turn(*three), judged_down(surface, pins_turned(*three))
                self.assertEqual(told, expected)
                self.assertIs(type(told), type(expected))
                if isinstance(told, Down):
                    self.lies(desk, expected.pins, 1)
                    desk.undo()
                self.lies(desk, surface.pins, 0)

    def test_a_fallen_changes_nothing(self):
        desk = Desk(Pins(FOUR))
        self.assertEqual(desk.turn(third=2, one=0, other=1), Fallen("j12"))
        self.lies(desk, Pins(FOUR), 0)
        self.raised(Misfit("undo"), desk.undo)

    def test_swap(self):
        for name, surface in SURFACES:
            for one in range(6):
                for other in range(6):
                    desk = Desk(surface.pins)
                    if one == other:
                        self.raised(Misfit("other"), desk.swap, one, other)
                        self.lies(desk, surface.pins, 0)
                    elif one == 2 or other == 5:
                        self.assertIsNone(desk.swap(one, other))
                        self.lies(desk, swapped(surface.pins, one, other), 1)
        desk = Desk(Pins(FOUR))
        self.assertIsNone(desk.swap(other=1, pin=0))
        self.assertEqual(str(desk.pins), "0,1,0 1,0,0 0,0,1 0,1,-1 1,0,-1 1,-1,0")

    def test_undo_to_the_beginning_and_beyond(self):
        source = Source(451)
        for name, surface in SURFACES:
            desk, lots = Desk(surface.pins), [surface.pins]
            for _ in range(8):
                self.drawn_deed(source, desk)
                if desk.deeds == len(lots):
                    lots.append(desk.pins)
                self.lies(desk, lots[-1], len(lots) - 1)
            while len(lots) > 1:
                lots.pop()
                self.assertIsNone(desk.undo())
                self.lies(desk, lots[-1], len(lots) - 1)
            for _ in range(2):
                self.raised(Misfit("undo"), desk.undo)
                self.lies(desk, surface.pins, 0)
            # Behind the beginning there is a way ahead again.
            desk.swap(0, 1)
            self.lies(desk, swapped(surface.pins, 0, 1), 1)

    def drawn_deed(self, source, desk):
        """A deed, which may be refused."""
        before, deeds, word = desk.pins, desk.deeds, source.below(3)
        try:
            if word == 0:
                desk.push(source.below(6), source.nonzero(3, 4))
            elif word == 1:
                desk.turn(source.below(6), source.below(6), source.below(6))
            else:
                desk.swap(source.below(6), source.below(6))
        except PinError:
            self.lies(desk, before, deeds)

    def test_what_is_refused_changes_nothing(self):
        desk = Desk(Pins(FOUR))
        desk.swap(0, 1)
        pins = desk.pins
        for expected, call, args in (
                (NoPins(Same(0, 2)), desk.push, (0, (0, 0, 1))), (NoStroke(Still()), desk.push, (0, (0, -2, 0))),
                (NoPins(InLine((1, 2, 4, 5))), desk.push, (5, (3, 0, 1))), (BadNumber("pin"), desk.push, (6, (0, 0, 1))),
                (BadNumber("pin"), desk.push, (True, None)), (BadRow("to"), desk.push, (0, (0, 0, 0))),
                (BadNumber("one"), desk.turn, (6, 0, 0)), (BadNumber("other"), desk.turn, (0, None, 0)),
                (BadNumber("third"), desk.turn, (0, 0, -1)), (Misfit("other"), desk.turn, (0, 0, 0)),
                (Misfit("third"), desk.turn, (0, 1, 0)), (BadNumber("pin"), desk.swap, (-1, 0)),
                (BadNumber("other"), desk.swap, (0, 6)), (Misfit("other"), desk.swap, (3, 3))):
            with self.subTest(expected=vars(expected)):
                self.raised(expected, call, *args)
                self.lies(desk, pins, 1)

    def test_errors(self):
        for value in NO_OBJECTS + (CORNERS,):
            self.refused(BadPins, "pins", Desk, value)
        desk = Desk(pins=Pins(SMOOTH))
        for value in ODD_INTEGERS + (-1, 6):
            self.refused(BadNumber, "pin", desk.push, value, (1, 2, 5))
            self.refused(BadNumber, "one", desk.turn, value, 1, 2)
            self.refused(BadNumber, "other", desk.turn, 0, value, 2)
            self.refused(BadNumber, "third", desk.turn, 0, 1, value)
            self.refused(BadNumber, "pin", desk.swap, value, 0)
            self.refused(BadNumber, "other", desk.swap, 0, value)
        for value in wrong_rows(3):
            self.refused(BadRow, "to", desk.push, 0, value)
        self.lies(desk, Pins(SMOOTH), 0)

    def test_desks_have_nothing_in_common(self):
        pins = Pins(SMOOTH)
        one, other = Desk(pins), Desk(pins)
        one.swap(0, 1)
        self.lies(other, pins, 0)
        self.assertEqual(pins, Pins(SMOOTH))
        self.raised(Misfit("undo"), other.undo)


class AllTest(DeskCase):

    def test_one_behind_another(self):
        rows = (["swap", 1, 2], ("turn", 0, 1, 2), ("undo",), ["push", 3, [5, -7, 2]], ("undo",))
        for name, surface in SURFACES:
            one, other = Desk(surface.pins), Desk(surface.pins)
            try:
                told = one.do_all(rows)
            except PinError:
                continue
            self.assertIs(type(told), tuple)
            expected = [other.swap(1, 2), other.turn(0, 1, 2)]
            expected += [other.undo(), other.push(3, (5, -7, 2)), other.undo()]
            self.assertEqual(list(told), expected)
            self.lies(one, other.pins, other.deeds)

    def test_what_is_returned(self):
        desk = Desk(Pins(SMOOTH))
        told = desk.do_all([("push", 0, (1, 1, 2)), ("turn", 0, 1, 2), ("swap", 4, 5), ("undo",)])
        later = Surface(Pins(put(Pins(SMOOTH), 0, (1, 1, 2))))
        self.assertEqual(told, (Stroke(Pins(SMOOTH), 0, (1, 1, 2)), judged_down(later, pins_turned(0, 1, 2)), None, None))
        self.assertEqual(desk.do_all(rows=[]), ())
        self.assertEqual(desk.do_all(()), ())

    def test_undo_goes_behind_the_list(self):
        desk = Desk(Pins(FOUR))
        desk.swap(0, 1)
        desk.push(0, (1, 5, 7))
        told = desk.do_all([("undo",), ("undo",), ("push", 0, (1, 0, 1)), ["swap", 1, 2]])
        self.assertEqual((told[0], told[1], told[3]), (None, None, None))
        self.assertEqual(told[2], Stroke(Pins(FOUR), 0, (1, 0, 1)))
        self.lies(desk, swapped(Pins(put(Pins(FOUR), 0, (1, 0, 1))), 1, 2), 2)

    def test_one_refused_among_them(self):
        for bad, expected in ((("swap", 1, 1), Misfit("other")), (("undo",), None), (("push", 0, (0, 0, 0)), BadRow("to")),
                              (("push", 9, (0, 0, 0)), BadNumber("pin")), (("turn", 0, 1, 1), Misfit("third")),
                              (("turn", None, 1, 1), BadNumber("one")), (("swap", (1,), {}), BadNumber("pin")),
                              (("push", 0, (0, 0, 1)), NoPins(Same(0, 2))), (("push", 2, (0, 0, 1)), NoStroke(Still()))):
            desk = Desk(Pins(FOUR))
            desk.swap(3, 4)
            pins = desk.pins
            rows = [("undo",), ("push", 5, (1, 5, 7)), ["undo"], bad, ("swap", 2, 3)]
            self.raised(expected or Misfit("undo"), desk.do_all, rows)
            self.lies(desk, pins, 1)
            desk.undo()
            self.lies(desk, Pins(FOUR), 0)

    def test_drawn_lists(self):
        source = Source(452)
        for name, surface in SURFACES:
            for _ in range(4):
                rows = [self.drawn_row(source) for _ in range(5)]
                one, other = Desk(surface.pins), Desk(surface.pins)
                one.swap(0, 5)
                other.swap(0, 5)
                expected, error = [], None
                for row in rows:
                    try:
                        expected.append(self.done(other, row))
                    except PinError as raised:
                        error = raised
                        break
                if error is None:
                    self.assertEqual(list(one.do_all(rows)), expected)
                    self.lies(one, other.pins, other.deeds)
                else:
                    self.raised(error, one.do_all, rows)
                    self.lies(one, swapped(surface.pins, 0, 5), 1)

    def drawn_row(self, source):
        word = ("push", "turn", "swap", "undo")[source.below(4)]
        if word == "push":
            return word, source.below(6), source.nonzero(3, 5)
        if word == "undo":
            return [word]
        return (word, *(source.below(6) for _ in range(3 if word == "turn" else 2)))

    def done(self, desk, row):
        return getattr(desk, row[0])(*row[1:])

    def test_forty_deeds(self):
        desk = Desk(Pins(SMOOTH))
        self.assertEqual(desk.do_all([("swap", 0, 1)] * 40), (None,) * 40)
        self.lies(desk, Pins(SMOOTH), 40)
        self.refused(BadRow, "rows", desk.do_all, [("swap", 0, 1)] * 41)
        self.refused(BadRow, "rows", desk.do_all, [("undo",)] * 41)
        desk.do_all([["undo"]] * 40)
        self.lies(desk, Pins(SMOOTH), 0)

    def test_rows_that_are_no_deeds(self):
        desk = Desk(Pins(SMOOTH))
        desk.swap(2, 3)
        pins = desk.pins
        wrong = [*ODD, 5, "undo", "swap", ("undo",), ("swap", 0, 1), {"undo": 1}, [[]], [()], [("do",)], [("Undo",)], [("push",)],
                 [("push", 0)], [("push", 0, (1, 2, 5), 3)], [("turn", 0, 1)], [("turn", 0, 1, 2, 3)], [("swap", 0)],
                 [("swap", 0, 1, 2)], [("undo", 0)], [("undo", None)], [(("undo",),)], [(b"undo",)], [{"undo": 1}],
                 [("do_all", [])], [("lay", pins)], [("deeds",)], [("push", 0, 1, 2, 5)]]
        wrong += [[value] for value in ODD + (5, "undo", "push")] + [[(value,)] for value in ODD + (5,)]
        for value in wrong:
            self.refused(BadRow, "rows", desk.do_all, value)
            self.lies(desk, pins, 1)
        for value in ODD + ("undo", ("undo", 1)):
            self.refused(BadRow, "rows", desk.do_all, [("swap", 0, 1), value])
            self.lies(desk, pins, 1)

    def test_values_behind_the_words_may_be_anything(self):
        desk = Desk(Pins(SMOOTH))
        for value in ODD + ([], ()):
            self.raised(BadNumber("pin"), desk.do_all, [("swap", 0, 1), ("push", value, value)])
            self.raised(BadRow("to"), desk.do_all, [("swap", 0, 1), ("push", 0, value)])
            self.raised(BadNumber("one"), desk.do_all, [["undo"], ["turn", value, value, value]][1:])
            self.raised(BadNumber("other"), desk.do_all, [("swap", 0, value)])
            self.lies(desk, Pins(SMOOTH), 0)

    def test_what_was_passed_may_change_afterwards(self):
        desk, to = Desk(Pins(SMOOTH)), [1, 1, 2]
        rows = [["push", 0, to]]
        desk.do_all(rows)
        to[0] = 9
        rows[0][1] = 5
        self.lies(desk, Pins(put(Pins(SMOOTH), 0, (1, 1, 2))), 1)


if __name__ == "__main__":
    unittest.main()

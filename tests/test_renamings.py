"""Renamings of the 27 names."""

import unittest
from itertools import combinations, permutations

from sixpins.errors import BadName, BadNames, BadNumber, BadRow, BadText, Misfit
from sixpins.names import all_arrays, all_sixes, array_of, class_of, partner_of
from sixpins.papers import Denial, Paper
from sixpins.renamings import (Breaks, Kept, Renaming, judged_map, pins_swapped, pins_turned, six_exchanged)
from tests.samples import NO_NAMES
from tests.support import Case, ODD, ODD_INTEGERS, Source, dotted, listed, scaled, sum_of, wrong_rows
from tests.test_names import CLASSES, NAMES, PLANE_CLASS, met_by_hand

PINS = NAMES[:6]


def drawn_six(source):
    """A six in a drawn order."""
    six = list(all_sixes()[source.below(72)])
    told = []
    while six:
        told.append(six.pop(source.below(len(six))))
    return tuple(told)


def led_by_hand(six):
    """The map of all names that the renaming of a six is, sought by who meets whom."""
    told = {}
    for name in NAMES:
        times = [met_by_hand(name, pin) for pin in PINS]
        fit = [one for one in NAMES if [met_by_hand(one, its) for its in six] == times]
        assert len(fit) == 1
        told[name] = fit[0]
    return told


def pictures_of(renaming):
    """The names to which a renaming leads all names."""
    return tuple(renaming.led_name(name) for name in NAMES)


def times_by_hand(pictures):
    """How often a map is done until each name is led to itself."""
    now, many = pictures, 1
    while now != NAMES:
        now, many = tuple(pictures[NAMES.index(name)] for name in now), many + 1
    return many


def no_sixes():
    """Values of all kinds that are no six."""
    six = all_sixes()[3]
    told = [*ODD, 5, (), [], six[:5], six + six[:1], six[:5] + six[:1], [six], " ".join(six), set(six), ("p0",) * 6,
            ("p0", "p1", "p2", "p3", "p4", "c5"), Renaming(six), dict.fromkeys(six)]
    return told + [six[:5] + (value,) for value in NO_NAMES]


class RenamingTest(Case):

    def check(self, six):
        """All that is told of one renaming; it is returned."""
        told = Renaming(six)
        self.same(told.six, tuple(six))
        pictures = led_by_hand(six)
        self.assertEqual(len(set(pictures.values())), 27)
        for name, picture in pictures.items():
            self.same(told.led_name(name), picture)
            self.same(told.led_class(class_of(name)), class_of(picture))
            self.same(told.led_class(list(class_of(name))), class_of(picture))
        for one, other in combinations(NAMES, 2):
            self.assertEqual(met_by_hand(pictures[one], pictures[other]), met_by_hand(one, other))
        self.same(told.led_class(PLANE_CLASS), PLANE_CLASS)
        self.assertEqual(judged_map(list(pictures.values())), Kept(six))
        return told

    def test_each_six(self):
        for six in all_sixes():
            self.check(six)

    def test_drawn_orders(self):
        source = Source(271)
        for _ in range(60):
            self.check(drawn_six(source))

    def test_classes(self):
        source = Source(272)
        for _ in range(30):
            renaming = Renaming(drawn_six(source))
            one, other = source.row(7, 9), source.row(7, 10 ** 20)
            first, second = renaming.led_class(one), renaming.led_class(other)
            # Sums are led to sums, and how often classes meet is kept.
            self.same(renaming.led_class(sum_of((2, -3), (one, other))), sum_of((2, -3), (first, second)))
            self.assertEqual(first[0] * second[0] - dotted(first[1:], second[1:]),
                             one[0] * other[0] - dotted(one[1:], other[1:]))
            whole = sum_of((1,) * 7, [class_of(name) for name in renaming.six] + [PLANE_CLASS])
            self.same(scaled(renaming.led_class((1, 0, 0, 0, 0, 0, 0)), 3), list(whole))
        self.same(Renaming(PINS).led_class([0] * 7), (0,) * 7)

    def test_products(self):
        source = Source(273)
        for _ in range(40):
            one, other = Renaming(drawn_six(source)), Renaming(drawn_six(source))
            both = one * other
            self.assertIs(type(both), Renaming)
            self.same(pictures_of(both), tuple(one.led_name(other.led_name(name)) for name in NAMES))
            row = source.row(7, 9)
            self.same(both.led_class(row), one.led_class(other.led_class(row)))
            third = Renaming(drawn_six(source))
            self.assertEqual((one * other) * third, one * (other * third))

    def test_the_order_of_a_product_counts(self):
        one, other = pins_swapped(0, 1), pins_swapped(1, 2)
        self.same((one * other).six, ("p1", "p2", "p0", "p3", "p4", "p5"))
        self.same((other * one).six, ("p2", "p0", "p1", "p3", "p4", "p5"))

    def test_products_with_other_values(self):
        for value in (2, None, "p0", PINS, class_of("p0")):
            for call in (lambda: Renaming(PINS) * value, lambda: value * Renaming(PINS)):
                self.assertRaises(TypeError, call)

    def test_undone(self):
        source = Source(274)
        still = Renaming.still()
        self.same(still.six, PINS)
        self.same(pictures_of(still), NAMES)
        self.assertEqual(still.undone(), still)
        for _ in range(40):
            told = Renaming(drawn_six(source))
            back = told.undone()
            self.assertIs(type(back), Renaming)
            self.assertEqual(told * back, still)
            self.assertEqual(back * told, still)
            self.assertEqual(back.undone(), told)
            self.same(tuple(back.led_name(name) for name in pictures_of(told)), NAMES)

    def test_times(self):
        source = Source(275)
        seen = {Renaming.still().times()}
        for _ in range(150):
            told = Renaming(drawn_six(source))
            many = told.times()
            self.same(many, times_by_hand(pictures_of(told)))
            seen.add(many)
        self.assertEqual(seen, {1, 2, 3, 4, 5, 6, 8, 9, 10, 12})

    def test_equal(self):
        one, other = Renaming(PINS), Renaming(list(PINS))
        self.assertIs(one == other, True)
        self.assertIs(one != other, False)
        for value in (pins_swapped(0, 1), PINS, str(one), None, True, Kept(PINS), [one]):
            self.assertIs(one == value, False)
            self.assertIs(one != value, True)

    def test_texts(self):
        source = Source(276)
        self.same(str(Renaming.still()), "p0 p1 p2 p3 p4 p5")
        for _ in range(20):
            six = drawn_six(source)
            told = Renaming(six)
            self.same(str(told), " ".join(six))
            self.assertEqual(Renaming.read(str(told)), told)
            self.assertIs(type(Renaming.read(text=str(told))), Renaming)

    def test_bent_texts(self):
        text = "p0 p1 p2 j45 j35 j34"
        wrong = [*ODD, 5, (), PINS, list(PINS), text + " ", " " + text, text.replace(" ", "  ", 1), text.replace(" ", ","),
                 text.replace(" ", "\t", 1), text.replace(" ", "\n"), text.upper(), text[:-4], text + " p5", text + "\n",
                 text.replace("j45", "j54"), "p0 p1 p2 p3 p4 c5", "p0 p0 p1 p2 p3 p4", "p0", " ", "     ",
                 text.encode(), [text], Renaming.still()]
        for value in wrong:
            self.refused(BadText, "text", Renaming.read, value)
        self.same(Renaming.read(text).six, ("p0", "p1", "p2", "j45", "j35", "j34"))

    def test_errors(self):
        for value in no_sixes():
            self.refused(BadNames, "six", Renaming, value)
            self.refused(BadNames, "six", six_exchanged, value)
        still = Renaming.still()
        for value in NO_NAMES:
            self.refused(BadName, "name", still.led_name, value)
        for value in wrong_rows(7, zeros=False) + [(1, 2, 3, 4, 5, 6), (True, 0, 0, 0, 0, 0, 0), (1.0, 0, 0, 0, 0, 0, 0)]:
            if not isinstance(value, (list, tuple)) or len(value) != 7 or not all(type(one) is int for one in value):
                self.refused(BadRow, "row", still.led_class, value)

    def test_by_name(self):
        told = Renaming(six=list(PINS))
        self.same(told.led_name(name="c0"), "c0")
        self.same(told.led_class(row=[2, 1, 0, 0, 0, 0, 0]), (2, 1, 0, 0, 0, 0, 0))

    def test_what_was_passed_may_change_afterwards(self):
        six = list(PINS)
        told = Renaming(six)
        six[0] = "c0"
        self.same(told.six, PINS)

    def test_trios_and_arrays_are_led_to_such(self):
        told = Renaming(drawn_six(Source(277)))
        for rows in all_arrays()[::10]:
            led = [[told.led_name(name) for name in row] for row in rows]
            self.assertIn(array_of(led), all_arrays())


class KnownTest(Case):

    def test_pins_swapped(self):
        for one, other in permutations(range(6), 2):
            told = pins_swapped(one, other)
            order = list(PINS)
            order[one], order[other] = order[other], order[one]
            self.same(told.six, tuple(order))
            self.same(told.led_class((1, 0, 0, 0, 0, 0, 0)), (1, 0, 0, 0, 0, 0, 0))
            self.same(told.times(), 2)
            self.assertEqual(pins_swapped(other=one, pin=other), told)

    def test_pins_swapped_errors(self):
        for value in ODD_INTEGERS + (-1, 6):
            self.refused(BadNumber, "pin", pins_swapped, value, 0)
            self.refused(BadNumber, "pin", pins_swapped, value, value)
            self.refused(BadNumber, "other", pins_swapped, 0, value)
        for pin in range(6):
            self.refused(Misfit, "other", pins_swapped, pin, pin)

    def test_pins_turned(self):
        for three in permutations(range(6), 3):
            told = pins_turned(*three)
            bar = (1, *(int(pin in three) for pin in range(6)))
            for name, row in CLASSES.items():
                many = row[0] - dotted(row[1:], bar[1:])
                self.same(told.led_class(row), sum_of((1, many), (row, bar)))
                self.assertEqual(CLASSES[told.led_name(name)], told.led_class(row))
            self.same(told.times(), 2)
        turn = pins_turned(third=2, one=0, other=1)
        self.same(turn.six, ("j12", "j02", "j01", "p3", "p4", "p5"))
        self.same(turn.led_class([1, 0, 0, 0, 0, 0, 0]), (2, 1, 1, 1, 0, 0, 0))

    def test_pins_turned_errors(self):
        for value in ODD_INTEGERS + (-1, 6):
            self.refused(BadNumber, "one", pins_turned, value, 1, 1)
            self.refused(BadNumber, "one", pins_turned, value, value, value)
            self.refused(BadNumber, "other", pins_turned, 0, value, 0)
            self.refused(BadNumber, "third", pins_turned, 0, 0, value)
        self.refused(Misfit, "other", pins_turned, 2, 2, 3)
        self.refused(Misfit, "other", pins_turned, 2, 2, 2)
        self.refused(Misfit, "third", pins_turned, 0, 1, 1)
        self.refused(Misfit, "third", pins_turned, 0, 1, 0)

    def test_six_exchanged(self):
        source = Source(281)
        told = {}
        for six in all_sixes():
            renaming = six_exchanged(six)
            partner = partner_of(six)
            for name in NAMES:
                picture = renaming.led_name(name)
                if name in six:
                    self.assertEqual(picture, partner[six.index(name)])
                elif name in partner:
                    self.assertEqual(picture, six[partner.index(name)])
                else:
                    self.assertEqual(picture, name)
            self.assertEqual(six_exchanged(listed(partner)), renaming)
            self.assertEqual(six_exchanged(six=sorted(six, key=lambda name: source.below(100))), renaming)
            told[renaming.six] = True
        self.assertEqual(len(told), 36)

    def test_generators_reach_all_of_a_six(self):
        # The words of the swaps alone lead p0 to each p, those with a turn to each name.
        steps = [pins_swapped(at, at + 1) for at in range(5)] + [pins_turned(0, 1, 2)]
        seen = ["p0"]
        for name in seen:
            for step in steps:
                if step.led_name(name) not in seen:
                    seen.append(step.led_name(name))
        self.assertEqual(sorted(seen), sorted(NAMES))


class JudgedMapTest(Case):

    def broken(self, pictures):
        """The first pair whose pictures do not meet as often as they do."""
        led = dict(zip(NAMES, pictures))
        for one, other in combinations(NAMES, 2):
            if met_by_hand(led[one], led[other]) != met_by_hand(one, other):
                return one, other
        return None

    def check(self, pictures):
        told, expected = judged_map(pictures), self.broken(pictures)
        if expected is None:
            self.assertEqual(told, Kept(pictures[:6]))
            self.same(told.six, tuple(pictures[:6]))
        else:
            self.assertEqual(told, Breaks(*expected))
            self.same((told.one, told.other), expected)
            self.assertIs(bool(told), False)
        return told

    def test_renamings(self):
        source = Source(291)
        for _ in range(20):
            told = Renaming(drawn_six(source))
            self.assertTrue(self.check(pictures_of(told)))
            self.assertTrue(self.check(list(pictures_of(told))))

    def test_two_pictures_exchanged(self):
        source = Source(292)
        for one, other in combinations(range(27), 2):
            pictures = list(pictures_of(Renaming(drawn_six(source))))
            pictures[one], pictures[other] = pictures[other], pictures[one]
            self.assertFalse(self.check(pictures))

    def test_one_picture_changed(self):
        source = Source(293)
        for at in range(27):
            pictures = list(pictures_of(Renaming(drawn_six(source))))
            pictures[at] = NAMES[source.below(27)]
            self.check(pictures)
            pictures[at] = pictures[at - 1]
            self.assertFalse(self.check(pictures))

    def test_known_maps(self):
        self.assertEqual(judged_map(["c0"] * 27), Breaks("p0", "p1"))
        self.assertEqual(judged_map(pictures=NAMES), Kept(PINS))
        self.assertEqual(judged_map(NAMES[:6] + ("j02", "j01") + NAMES[8:]), Breaks("p1", "j01"))
        last = NAMES[:25] + ("c5", "c4")
        self.assertEqual(judged_map(last), Breaks("p4", "c4"))

    def test_papers(self):
        kept, breaks = Kept(["a", ["b"]]), Breaks([1], 2)
        self.assertEqual((kept.word, bool(kept), breaks.word, bool(breaks)), ("kept", True, "breaks", False))
        self.same((kept.six, kept.parts), (("a", ("b",)), (("a", ("b",)),)))
        self.same((breaks.one, breaks.other, breaks.parts), ((1,), 2, ((1,), 2)))
        self.assertEqual(Kept(six=("a", ("b",))), kept)
        self.assertEqual(Breaks(other=2, one=(1,)), breaks)
        self.assertIsInstance(kept, Paper)
        self.assertNotIsInstance(kept, Denial)
        self.assertIsInstance(breaks, Denial)

    def test_errors(self):
        for value in (*ODD, 5, (), [], NAMES[:26], NAMES + ("p0",), " ".join(NAMES), [NAMES], dict.fromkeys(NAMES),
                      set(NAMES), PINS, Renaming.still()):
            self.refused(BadNames, "pictures", judged_map, value)
        for value in NO_NAMES:
            self.refused(BadNames, "pictures", judged_map, NAMES[:26] + (value,))


if __name__ == "__main__":
    unittest.main()

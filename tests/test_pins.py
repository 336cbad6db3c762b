"""Pins: their bars, kind and curve, and their texts."""

import unittest
from itertools import combinations, permutations

from sixpins.classes import times_crossed
from sixpins.errors import BadNumber, BadRow, BadText, NoPins
from sixpins.papers import Denial, Paper
from sixpins.pins import Apart, InLine, Pins, Same, judged_pins
from sixpins.plane import in_line
from tests.support import (Case, ODD, ODD_INTEGERS, Pair, Source, Thing, determinant_by_hand, dotted, listed,
                           plain_by_hand, reduced_by_hand, scaled, value_by_hand, wrong_rows)

# The seven cases: what they are, the spots, the number of bars, the kind.
CASES = (
    ("no bar", ((1, 0, 0), (0, 1, 0), (0, 0, 1), (1, 1, 1), (1, 2, 3), (1, 3, 2)), 0, ()),
    ("one line", ((1, 0, 0), (0, 1, 0), (1, 1, 0), (0, 0, 1), (1, 2, 1), (3, 1, 1)), 1, (1,)),
    ("bent", tuple((1, k, k * k) for k in range(6)), 1, (1,)),
    ("two lines with a pin", ((1, 0, 0), (0, 1, 0), (1, 1, 0), (0, 0, 1), (1, 0, 1), (1, 2, 3)), 2, (1, 1)),
    ("two lines without", ((1, 0, 0), (0, 1, 0), (1, 1, 0), (0, 0, 1), (1, 2, 1), (1, 2, -1)), 2, (2,)),
    ("three lines", ((1, 0, 0), (0, 1, 0), (0, 0, 1), (0, 1, 1), (1, 0, 1), (1, 1, 0)), 3, (1, 1, 1)),
    ("four lines", ((1, 0, 0), (0, 1, 0), (0, 0, 1), (0, 1, -1), (1, 0, -1), (1, -1, 0)), 4, (1, 1, 1, 1)),
)
SMOOTH = CASES[0][1]
FOUR = CASES[6][1]
BENT = (2, 1, 1, 1, 1, 1, 1)
CHANGES = (((1, 2, 3), (0, 1, 4), (5, 6, 0)), ((0, 0, -1), (2, 0, 1), (0, 3, 1)), ((7, -2, 1), (1, 1, 1), (0, 5, -3)))
WRONG_SPOTS = ODD + (5, [], (), FOUR[:5], FOUR + ((1, 2, 3),), [FOUR], (1, 2, 3, 4, 5, 6), [[1, 2, 3]] * 5, str(FOUR))


def bars_by_hand(spots):
    """The bars, told by determinants."""
    lines = []
    for three in combinations(range(6), 3):
        if determinant_by_hand([spots[pin] for pin in three]) == 0:
            lines.append((1, *(int(pin in three) for pin in range(6))))
    rows = [(x * x, x * y, x * z, y * y, y * z, z * z) for x, y, z in spots]
    if not lines and determinant_by_hand(rows) == 0:
        return (BENT,)
    return tuple(sorted(lines))


def changed(change, spots):
    """The spots to which a change of the plane leads these."""
    return tuple(tuple(dotted(row, spot) for row in change) for spot in spots)


def some_orders(source):
    """The numbers 0 to 5 in some orders."""
    orders = list(permutations(range(6)))
    return [orders[0], orders[-1]] + [orders[source.below(720)] for _ in range(4)]


class CasesTest(Case):

    def check(self, spots, many, kind):
        """All that is told of such pins."""
        pins = Pins(spots)
        self.same(pins.spots, tuple(plain_by_hand(spot) for spot in spots))
        self.same(pins.bars, bars_by_hand(spots))
        self.assertEqual(len(pins.bars), many)
        self.same(pins.kind, kind)
        judged = judged_pins(spots)
        self.assertEqual(judged, Apart(pins.bars))
        self.assertTrue(judged)
        self.same(judged.bars, pins.bars)
        forms = reduced_by_hand([(x * x, x * y, x * z, y * y, y * z, z * z) for x, y, z in spots], 6)
        if len(forms) == 6:
            self.assertIsNone(pins.curve)
        else:
            self.assertEqual(len(forms), 5)
            self.same(pins.curve, plain_by_hand(pins.curve))
            self.assertEqual([value_by_hand(pins.curve, 3, 2, spot) for spot in spots], [0] * 6)
        self.assertEqual(pins.curve is not None, kind == (2,) or BENT in pins.bars)
        self.same(Pins(listed(spots)).spots, pins.spots)
        self.assertEqual(Pins([scaled(spot, -3) for spot in spots]), pins)
        self.same(Pins.read(str(pins)).spots, pins.spots)

    def test_the_seven_cases(self):
        source = Source(81)
        for name, spots, many, kind in CASES:
            for order in some_orders(source):
                with self.subTest(name, order=order):
                    self.check(tuple(spots[pin] for pin in order), many, kind)

    def test_led_by_a_change(self):
        source = Source(82)
        for name, spots, many, kind in CASES:
            for change in CHANGES:
                for order in some_orders(source)[:3]:
                    with self.subTest(name, change=change, order=order):
                        told = changed(change, [spots[pin] for pin in order])
                        self.check(told, many, kind)
                        self.same(Pins(told).bars, Pins([spots[pin] for pin in order]).bars)

    def test_bars_ascend(self):
        for name, spots, _, _ in CASES:
            for order in permutations(range(6)):
                bars = Pins([spots[pin] for pin in order]).bars
                self.assertEqual(list(bars), sorted(bars))

    def test_facts_of_bars(self):
        for name, spots, _, kind in CASES:
            pins = Pins(spots)
            for one in pins.bars:
                with self.subTest(name, bar=one):
                    self.assertEqual(times_crossed(one, one), -2)
                    self.assertEqual(times_crossed(one, (3, 1, 1, 1, 1, 1, 1)), 0)
            crossings = [times_crossed(one, other) for one, other in combinations(pins.bars, 2)]
            self.assertEqual(set(crossings), {1} if kind == (2,) else {0} if len(pins.bars) > 1 else set())
            self.assertTrue([four for four in combinations(range(6), 4)
                             if all(determinant_by_hand([spots[pin] for pin in three])
                                    for three in combinations(four, 3))])

    def test_spots_on_bars(self):
        for spots, bars in ((CASES[1][1], [(0, 1, 2)]), (FOUR, [(0, 1, 5), (0, 2, 4), (1, 2, 3), (3, 4, 5)])):
            told = [tuple(pin for pin in range(6) if bar[pin + 1]) for bar in Pins(spots).bars]
            self.assertEqual(sorted(told), bars)
            for three in told:
                self.assertIs(in_line([spots[pin] for pin in three]), True)

    def test_known_curves(self):
        self.same(Pins(CASES[2][1]).curve, (0, 0, 1, -1, 0, 0))
        self.same(Pins(CASES[4][1]).curve, (0, 0, 2, 0, -1, 0))
        self.assertIsNone(Pins(FOUR).curve)
        self.assertIsNone(Pins(SMOOTH).curve)

    def test_known_bars(self):
        self.same(Pins(CASES[1][1]).bars, ((1, 1, 1, 1, 0, 0, 0),))
        self.same(Pins(CASES[5][1]).bars, ((1, 0, 1, 1, 1, 0, 0), (1, 1, 0, 1, 0, 1, 0), (1, 1, 1, 0, 0, 0, 1)))

    def test_long_integers(self):
        spots = [(10 ** 29 + k, 10 ** 28 * k + 7, k * k + 1) for k in range(6)]
        self.same(Pins(spots).bars, bars_by_hand(spots))
        big = 10 ** 14
        self.same(Pins([(1, big + k, (big + k) ** 2) for k in range(6)]).bars, (BENT,))

    def test_by_name(self):
        self.assertEqual(Pins(spots=FOUR), Pins(FOUR))
        self.assertEqual(judged_pins(spots=FOUR), judged_pins(FOUR))
        self.assertEqual(Pins.read(text=str(Pins(FOUR))), Pins(FOUR))


class JudgedTest(Case):

    def check(self, spots, expected):
        """The paper that is told of these spots, and the error that has it."""
        judged = judged_pins(spots)
        self.assertEqual(judged, expected)
        self.assertIs(type(judged), type(expected))
        self.assertIs(bool(judged), False)
        for call, value in ((Pins, spots), (Pins, listed(spots)),
                            (Pins.read, " ".join(",".join(map(str, plain_by_hand(spot))) for spot in spots))):
            with self.assertRaises(NoPins) as caught:
                call(value)
            self.assertIs(type(caught.exception), NoPins)
            self.assertEqual(caught.exception.why, expected)

    def test_same(self):
        for one, other in combinations(range(6), 2):
            spots = list(SMOOTH)
            spots[other] = scaled(spots[one], -2)
            self.check(spots, Same(one, other))
            spots[one], spots[other] = spots[other], spots[one]
            self.check(spots, Same(one, other))

    def test_the_first_same_pair(self):
        a, b, c, d = SMOOTH[:4]
        self.check((a, b, c, c, b, a), Same(0, 5))
        self.check((a, b, b, a, b, b), Same(0, 3))
        self.check((a, b, c, b, c, d), Same(1, 3))
        self.check((a, b, c, d, d, c), Same(2, 5))
        self.check((a,) * 6, Same(0, 1))

    def test_in_line(self):
        line = ((1, 0, 0), (0, 1, 0), (1, 1, 0), (1, 2, 0))
        for four in combinations(range(6), 4):
            spots = [None] * 6
            for pin, spot in zip(four, line):
                spots[pin] = spot
            rest = [pin for pin in range(6) if pin not in four]
            spots[rest[0]], spots[rest[1]] = (0, 0, 1), (1, 1, 1)
            self.check(spots, InLine(four))

    def test_more_than_four_in_line(self):
        line = [(1, k, 0) for k in range(6)]
        self.check(line, InLine((0, 1, 2, 3)))
        for at in range(6):
            spots = list(line)
            spots[at] = (0, 0, 1)
            self.check(spots, InLine(tuple([pin for pin in range(6) if pin != at][:4])))

    def test_same_comes_ahead_of_in_line(self):
        line = [(1, k, 0) for k in range(4)]
        self.check([*line, (0, 0, 1), (0, 0, 1)], Same(4, 5))
        self.check([*line, (1, 0, 0), (0, 0, 1)], Same(0, 4))
        self.check([*line[:3], (1, 1, 0), (0, 0, 1), (0, 1, 1)], Same(1, 3))

    def test_in_line_comes_ahead_of_bars(self):
        # Beside the four there are two further lines of three.
        self.check([(1, 0, 0), (0, 1, 0), (1, 1, 0), (1, 2, 0), (0, 0, 1), (1, 0, 1)], InLine((0, 1, 2, 3)))

    def test_small_spots(self):
        source = Source(83)
        for _ in range(300):
            spots = [source.nonzero(3, 2) for _ in range(6)]
            plain = [plain_by_hand(spot) for spot in spots]
            same = [pair for pair in combinations(range(6), 2) if plain[pair[0]] == plain[pair[1]]]
            four = [told for told in combinations(range(6), 4)
                    if len(reduced_by_hand([spots[pin] for pin in told], 3)) < 3]
            with self.subTest(spots):
                if same:
                    self.check(spots, Same(*same[0]))
                elif four:
                    self.check(spots, InLine(four[0]))
                else:
                    self.assertEqual(judged_pins(spots), Apart(bars_by_hand(spots)))

    def test_wrong_spots(self):
        for call in (judged_pins, Pins):
            for value in WRONG_SPOTS:
                self.refused(BadRow, "spots", call, value)
            for value in wrong_rows(3):
                for at in (0, 3, 5):
                    spots = list(SMOOTH)
                    spots[at] = value
                    self.refused(BadRow, "spots", call, spots)
                    self.refused(BadRow, "spots", call, spots=tuple(spots))
                self.refused(BadRow, "spots", call, [(1, 0, 0)] * 5 + [value])
            self.refused(BadRow, "spots", call, Pins(FOUR))

    def test_what_is_passed_may_change_afterwards(self):
        spots = listed(FOUR)
        pins = Pins(spots)
        spots[0][0] = 9
        spots.pop()
        self.same(pins.spots, FOUR)


class PapersTest(Case):

    def test_parts(self):
        for made, word, fields, base in ((Apart, "apart", ("bars",), Paper), (Same, "same", ("one", "other"), Denial),
                                         (InLine, "inline", ("four",), Denial)):
            self.assertEqual(made.__bases__, (base,))
            for value in (None, True, 5, "a", [1, [2]], {"a": [1]}, Thing()):
                values = [value, [value]][:len(fields)]
                expected = (value, (value,))[:len(fields)]
                if value == [1, [2]]:
                    expected = ((1, (2,)), ((1, (2,)),))[:len(fields)]
                by_place, by_name = made(*values), made(**dict(zip(fields, values)))
                for paper in (by_place, by_name):
                    self.assertEqual(paper.word, word)
                    self.same(paper.parts, expected)
                    self.assertIs(bool(paper), base is Paper)
                    for field, part in zip(fields, expected):
                        self.assertEqual(getattr(paper, field), part)
                self.assertEqual(by_place, by_name)

    def test_unlike_ones(self):
        told = [Apart(()), Apart([BENT]), Same(0, 1), Same(1, 0), InLine((0, 1, 2, 3)), InLine((0, 1)),
                Paper("apart", ()), Denial("apart", ()), Denial("same", 0, 1), Denial("inline", (0, 1)), None]
        for at, one in enumerate(told):
            for place, other in enumerate(told):
                self.assertIs(one == other, at == place)
                self.assertIs(one != other, at != place)
        self.assertNotIsInstance(Paper("apart", ()), Apart)

    def test_lists_for_tuples(self):
        self.assertEqual(InLine([0, 1, 2, 3]), InLine((0, 1, 2, 3)))
        self.assertEqual(Apart([list(BENT)]), Apart((BENT,)))


class ThroughTest(Case):

    def test_all_choices(self):
        for name, spots, _, _ in CASES:
            pins = Pins(spots)
            for many in range(5):
                for numbers in combinations(range(6), many):
                    told = tuple(bar for bar in pins.bars if all(bar[pin + 1] for pin in numbers))
                    with self.subTest(name, numbers=numbers):
                        self.same(pins.through(*numbers), told)
                        self.same(pins.through(*numbers[::-1], *numbers), told)

    def test_no_number(self):
        for _, spots, _, _ in CASES:
            self.same(Pins(spots).through(), Pins(spots).bars)

    def test_all_six(self):
        self.same(Pins(CASES[2][1]).through(*range(6)), (BENT,))
        self.same(Pins(FOUR).through(*range(6)), ())
        self.same(Pins(FOUR).through(1, 2, 3), ((1, 0, 1, 1, 1, 0, 0),))

    def test_wrong_numbers(self):
        for pins in (Pins(FOUR), Pins(SMOOTH)):
            for value in ODD_INTEGERS + (-1, 6, 100, [0, 1]):
                self.refused(BadNumber, "numbers", pins.through, value)
                self.refused(BadNumber, "numbers", pins.through, 0, 1, value)
                self.refused(BadNumber, "numbers", pins.through, value, 5)


class OwnTest(Case):

    def test_going_through(self):
        for _, spots, _, _ in CASES:
            pins = Pins(spots)
            self.assertEqual(len(pins), 6)
            self.same([spot for spot in pins], list(pins.spots))
            self.same(list(pins), list(pins.spots))
            self.same([spot for spot in pins], list(pins.spots))

    def test_in(self):
        for _, spots, _, _ in CASES:
            pins = Pins(spots)
            for spot in spots:
                for value in (spot, list(spot), scaled(spot, -3), tuple(scaled(spot, 10 ** 30))):
                    self.assertIs(value in pins, True)
            for value in ((1, 5, 7), (1, 1, 5), [3, 5, 7], (0, 0, 0), [0, 0, 0], (1, 0), (1, 0, 0, 0), spots,
                          [spots[0]], Pair(1, 0), pins, *wrong_rows(3)):
                self.assertIs(value in pins, False)
                self.assertIs(value not in pins, True)

    def test_equal(self):
        for _, spots, _, _ in CASES:
            one, other = Pins(spots), Pins([scaled(spot, -2) for spot in spots])
            self.assertIs(one == other, True)
            self.assertIs(one != other, False)
            turned = Pins(spots[1:] + spots[:1])
            swapped = Pins((spots[1], spots[0]) + spots[2:])
            for value in (turned, swapped, None, 6, True, spots, list(spots), str(one), Apart(one.bars), Thing(), {}):
                self.assertIs(one == value, False)
                self.assertIs(value == one, False)
                self.assertIs(one != value, True)
        told = [Pins(spots) for _, spots, _, _ in CASES]
        for at, one in enumerate(told):
            self.assertEqual([one == other for other in told], [at == place for place in range(len(told))])


class TextTest(Case):

    def test_there_and_back(self):
        for _, spots, _, _ in CASES:
            pins = Pins(spots)
            text = " ".join(",".join(str(number) for number in plain_by_hand(spot)) for spot in spots)
            self.assertEqual(str(pins), text)
            self.assertIs(type(Pins.read(text)), Pins)
            self.assertEqual(Pins.read(text), pins)
        self.assertEqual(str(Pins(FOUR)), "1,0,0 0,1,0 0,0,1 0,1,-1 1,0,-1 1,-1,0")

    def test_long_integers(self):
        for number in (10 ** 60 - 1, -(10 ** 60 - 1)):
            pins = Pins(SMOOTH[:5] + ((1, 3, number),))
            self.assertEqual(Pins.read(str(pins)), pins)
        for number in (10 ** 60, -(10 ** 60), 10 ** 3000):
            pins = Pins(SMOOTH[:5] + ((1, 3, number),))
            self.assertTrue(str(pins).endswith(f" 1,3,{number}"))
            self.refused(BadText, "text", Pins.read, str(pins))

    def test_bent_texts(self):
        right = str(Pins(FOUR))
        words = right.split(" ")
        told = [right.replace(" ", "  ", 1), " " + right, right + " ", right + "\n", "\n" + right, right + " 1,2,3",
                right.replace(" ", "\n"), right.replace(" ", "\t"), right.replace(" ", ","), right.replace(" ", ""),
                right.replace(",", " "), right.replace(",", ";"), right.replace(",", ", "), "", " ", "     ",
                right.replace(" ", "\u00a0"), "[" + right + "]", right + ",", right[1:], right[:-1], right * 2]
        told += [" ".join(words[:5]), " ".join(words[1:]), " ".join(words * 2), words[0]]
        for bent in ("2,0,0", "-1,0,0", "0,0,0", "1,0", "1,0,0,0", "+1,0,0", "1,0,-0", "01,0,0", "1,0,00", "1.0,0,0",
                     "1,0,x", "", "1,,0", "1,0,0,", ",1,0,0", "1,0,1" + "0" * 60, "\u0661,0,0", "2,4,6"):
            for at in (0, 5):
                row = list(words)
                row[at] = bent
                told.append(" ".join(row))
        for text in told:
            with self.subTest(text):
                self.refused(BadText, "text", Pins.read, text)

    def test_values_that_are_no_texts(self):
        for value in ODD + (5, FOUR, list(FOUR), Pins(FOUR), str(Pins(FOUR)).split(" "), str(Pins(FOUR)).encode()):
            self.refused(BadText, "text", Pins.read, value)

    def test_bad_text_comes_ahead_of_no_pins(self):
        same = "1,0,0 1,0,0 0,0,1 0,1,-1 1,0,-1 1,-1,0"
        with self.assertRaises(NoPins) as caught:
            Pins.read(same)
        self.assertEqual(caught.exception.why, Same(0, 1))
        for text in (same + " ", same.replace("0,0,1", "0,0,2"), same.replace(" 1,-1,0", "")):
            self.refused(BadText, "text", Pins.read, text)


if __name__ == "__main__":
    unittest.main()

"""Runs: strokes one behind another, where they halt, and what becomes of the names."""

import unittest
from fractions import Fraction

from sixpins.errors import BadName, BadPins, BadRow, BadStroke, Misfit, NoStroke, TooMany
from sixpins.falls import falls_on, weights_of
from sixpins.lines import told_lines
from sixpins.names import all_names
from sixpins.papers import Denial, Paper
from sixpins.pins import InLine, Pins, Same, judged_pins
from sixpins.planes import told_planes
from sixpins.runs import Halts, Run
from sixpins.strokes import Still, Stroke, Surd
from sixpins.surface import Surface
from tests.samples import CORNERS, NO_NAMES, NO_OBJECTS, SURFACES, drawn_pins
from tests.support import Case, ODD, Source, listed, plain_by_hand, scaled, wrong_rows
from tests.test_names import CLASSES
from tests.test_pins import FOUR, SMOOTH
from tests.test_strokes import pair, put

SMOOTH_PINS = Pins(SMOOTH)
ROWS = ((0, (1, 1, 2)), (5, (1, 4, 2)), (0, (1, 0, 0)))
RUN = Run(SMOOTH_PINS, ROWS)


def drawn_rows(source, pins, many, most=5):
    """So many rows along which a run goes from these pins."""
    rows, spots = [], pins.spots
    while len(rows) < many:
        pin, to = source.below(6), source.nonzero(3, most)
        further = put(Pins(spots), pin, plain_by_hand(to))
        if plain_by_hand(to) != spots[pin] and judged_pins(further):
            rows.append((pin, to))
            spots = further
    return rows


def walked(name, bars):
    """The name on which a name falls, if these are the bars: one bar taken off after another."""
    row = CLASSES[name]
    while True:
        below = [bar for bar in bars if row[0] * bar[0] - sum(a * b for a, b in zip(row[1:], bar[1:])) < 0]
        if not below:
            return [one for one, its in CLASSES.items() if its == row][0]
        row = tuple(a - b for a, b in zip(row, below[-1]))


class RunTest(Case):

    def check(self, pins, rows):
        """All that is told of a run that does not halt; it is returned."""
        run = Run(pins, rows)
        self.assertEqual(run.pins, pins)
        self.same(run.rows, tuple((pin, plain_by_hand(to)) for pin, to in rows))
        self.assertEqual((len(run), len(run.strokes), len(run.ends)), (len(rows), len(rows), len(rows) + 1))
        self.assertEqual((type(run.strokes), type(run.ends)), (tuple, tuple))
        self.assertEqual(run.ends[0], pins)
        self.assertEqual(run.last, run.ends[-1])
        for at, (pin, to) in enumerate(run.rows):
            self.assertEqual(run.strokes[at], Stroke(run.ends[at], pin, to))
            self.assertEqual(run.ends[at + 1], run.strokes[at].pins_at(1))
            self.same(run.ends[at + 1].spots, put(run.ends[at], pin, to))
        self.check_back(run)
        return run

    def check_back(self, run):
        back = run.back()
        self.assertIs(type(back), Run)
        self.assertEqual((back.pins, back.last), (run.last, run.pins))
        self.assertEqual(back.ends, run.ends[::-1])
        self.same(back.rows, tuple((pin, end.spots[pin]) for (pin, _), end in zip(run.rows, run.ends))[::-1])
        self.assertEqual(back.back(), run)
        for stroke, further in zip(run.strokes, back.strokes[::-1]):
            self.assertEqual(further, stroke.part(1, 0))
            self.assertEqual([row[1:] for row in further], [row[1:] for row in stroke][::-1])
        if 2 * len(run) <= 40:
            whole = run.then(back)
            self.assertEqual((whole.last, len(whole), whole.rows), (run.pins, 2 * len(run), run.rows + back.rows))

    def test_none_to_five_strokes(self):
        source = Source(401)
        for name, surface in SURFACES:
            for many in range(6):
                with self.subTest(name, many=many):
                    self.check(surface.pins, drawn_rows(source, surface.pins, many))

    def test_back_again_and_the_same_pin_twice(self):
        for name, surface in SURFACES:
            spot = surface.pins.spots[3]
            run = self.check(surface.pins, [(3, (7, -11, 13)), (3, (5, 9, -17)), (3, spot)])
            self.assertEqual(run.last, surface.pins)
            self.assertEqual(run.ends[0], run.ends[3])

    def test_six_digits_and_forty_rows(self):
        source = Source(402)
        pins = drawn_pins(13)
        run = self.check(pins, drawn_rows(source, pins, 3, 999_999))
        rows = drawn_rows(source, pins, 40, 99)
        whole = self.check(pins, rows)
        self.assertEqual(Run(pins, rows[:20]).then(Run(whole.ends[20], rows[20:])), whole)
        self.too_many(Run, pins, rows + rows[:1])
        self.too_many(Run, pins, [(0, (1, 0, 0))] * 41)
        self.too_many(whole.then, Run(whole.last, [(0, run.pins.spots[0])]))
        self.refused(Misfit, "other", whole.then, Run(run.pins, [(0, (1, 2, 9))]))

    def too_many(self, call, *args):
        with self.assertRaises(TooMany) as caught:
            call(*args)
        self.assertEqual((caught.exception.what, caught.exception.most), ("rows", 40))

    def test_lists_in_the_place_of_tuples(self):
        self.assertEqual(Run(SMOOTH_PINS, listed(ROWS)), RUN)
        self.assertEqual(Run(rows=[(pin, scaled(to, -3)) for pin, to in ROWS], pins=SMOOTH_PINS), RUN)
        self.same(Run(SMOOTH_PINS, listed(ROWS)).rows, ROWS)
        rows = listed(ROWS)
        told = Run(SMOOTH_PINS, rows)
        rows[0][1][0] = 9
        self.assertEqual(told, RUN)

    def halts(self, pins, rows, why):
        with self.assertRaises(NoStroke) as caught:
            Run(pins, rows)
        self.assertIs(type(caught.exception), NoStroke)
        self.assertEqual(caught.exception.why, why)
        self.assertIs(type(caught.exception.why), Halts)
        self.assertIs(type(caught.exception.why.why), type(why.why))

    def test_where_a_run_halts(self):
        self.halts(SMOOTH_PINS, [(5, (1, 4, 2)), (1, (0, 0, 1))], Halts(1, Same(1, 2)))
        self.halts(SMOOTH_PINS, [(5, (1, 3, 2))], Halts(0, Still()))
        self.halts(SMOOTH_PINS, [(5, (1, 4, 2)), (5, (-2, -8, -4)), (5, (1, 0, 0))], Halts(1, Still()))
        self.halts(Pins(FOUR), [(5, (2, 0, 1)), (0, (0, 1, 0))], Halts(0, InLine((0, 2, 4, 5))))
        # The first one counts, also where a later one is none whatever comes ahead.
        self.halts(SMOOTH_PINS, [(0, (1, 1, 2)), (0, (0, 1, 0)), (0, (0, 1, 0))], Halts(1, Same(0, 1)))
        source = Source(403)
        for name, surface in SURFACES:
            rows = drawn_rows(source, surface.pins, 3)
            last = Run(surface.pins, rows).last
            self.halts(surface.pins, rows + [(2, last.spots[4]), (0, (1, 2, 3))], Halts(3, Same(2, 4)))
            self.halts(surface.pins, rows + [(2, last.spots[2])], Halts(3, Still()))

    def test_on_the_way_there_may_be_no_pins(self):
        stroke = Stroke(Pins(FOUR), 5, (1, 1, 1))
        self.assertEqual([row[2] for row in stroke].count(None), len(stroke) - 1)
        self.check(Pins(FOUR), [(5, (1, 1, 1))])

    def test_none(self):
        run = self.check(Pins(FOUR), [])
        self.assertEqual((len(run), run.last, run.back(), run.then(run)), (0, Pins(FOUR), run, run))
        self.same(run.followed("p0"), ())
        self.assertEqual(RUN.then(Run(RUN.last, [])), RUN)

    def test_equal(self):
        self.assertIs(RUN == Run(Pins(SMOOTH), list(ROWS)), True)
        self.assertIs(RUN != Run(Pins(SMOOTH), list(ROWS)), False)
        for value in (Run(SMOOTH_PINS, ROWS[:2]), Run(SMOOTH_PINS, []), Run(Pins(FOUR), []), ROWS, None, True, 3, RUN.strokes,
                      RUN.strokes[0]):
            self.assertIs(RUN == value, False)
            self.assertIs(RUN != value, True)

    def test_errors(self):
        for value in NO_OBJECTS + (CORNERS,):
            self.refused(BadPins, "pins", Run, value, [])
            self.refused(BadPins, "pins", Run, value, value)
        wrong = [*ODD, 5, "rows", (0, (1, 2, 3)), [(0,)], [()], [[]], [(0, (1, 2, 3), 4)], [ROWS], {0: (1, 2, 3)}, RUN, [RUN],
                 [Stroke(SMOOTH_PINS, 0, (1, 1, 2))]]
        wrong += [[(value, (1, 2, 3))] for value in ODD + (-1, 6, (0,), [], "0")]
        wrong += [[ROWS[0], (0, value)] for value in wrong_rows(3)]
        for value in wrong:
            self.refused(BadRow, "rows", Run, SMOOTH_PINS, value)
        # A bad row comes ahead of too many, and of where the run halts.
        self.refused(BadRow, "rows", Run, SMOOTH_PINS, [ROWS[0]] * 41 + [(6, (1, 2, 3))])
        self.refused(BadRow, "rows", Run, SMOOTH_PINS, [(0, (0, 1, 0)), (0, (0, 0, 0))])

    def test_then_errors(self):
        for value in NO_OBJECTS + (CORNERS, ROWS, RUN.strokes[0], SMOOTH_PINS):
            self.refused(BadStroke, "other", RUN.then, value)
        for value in (RUN, Run(Pins(FOUR), []), Run(SMOOTH_PINS, ROWS)):
            self.refused(Misfit, "other", RUN.then, value)
        self.assertEqual(RUN.then(other=RUN.back()).last, SMOOTH_PINS)


class FollowedTest(Case):

    def check(self, run):
        """What becomes of each name at all times."""
        told = {name: run.followed(name) for name in all_names()}
        for name, rows in told.items():
            place = 0
            for at, stroke in enumerate(run.strokes):
                self.same(rows[place], (at, None, walked(name, stroke.kept)))
                for time, bars, why in stroke.moments:
                    place += 1
                    self.assertEqual(rows[place][:2], (at, time))
                    expected = walked(name, stroke.kept + bars) if why is None else None
                    self.same(rows[place][2], expected)
                    if why is None and not isinstance(time, Surd):
                        self.same(rows[place][2], falls_on(stroke.pins_at(time), name))
                place += 1
            self.assertEqual((len(rows), type(rows)), (place, tuple))
        self.check_weights(told)

    def check_weights(self, told):
        """All weights together are 27 at all times at which there are pins."""
        for rows in zip(*told.values()):
            names = [row[2] for row in rows]
            if None not in names:
                counts = {name: names.count(name) for name in names}
                self.assertEqual(sum(counts.values()), 27)
                self.assertEqual([name for name in counts if told[name][[*zip(*told.values())].index(rows)][2] != name], [])
            else:
                self.assertEqual(set(names), {None})

    def test_drawn_runs(self):
        source = Source(404)
        for name, surface in SURFACES:
            self.check(Run(surface.pins, drawn_rows(source, surface.pins, 3)))
        self.check(RUN)
        self.check(Run(Pins(FOUR), [(5, (1, 1, 1)), (0, (1, 0, 1))]))

    def test_between_the_moments(self):
        source = Source(405)
        for name, surface in SURFACES:
            run = Run(surface.pins, drawn_rows(source, surface.pins, 2))
            for at, stroke in enumerate(run.strokes):
                times = [row[0] for row in stroke.moments]
                free = [time for time in (pair(Fraction(k, 17)) for k in range(1, 17)) if time not in times][:5]
                for told in all_names()[::4]:
                    onto = [row[2] for row in run.followed(told) if row[:2] == (at, None)]
                    for time in free:
                        self.assertEqual([falls_on(stroke.pins_at(time), told)], onto)

    def test_known(self):
        self.assertEqual(RUN.followed("j01"), (
            (0, None, "j01"), (0, (1, 3), "j01"), (0, (1, 2), "p3"), (0, Surd((6, -15, 7), 0), "j01"), (0, (1, 1), "p5"),
            (1, None, "p5"), (2, None, "j01"), (2, (0, 1), "p5"), (2, Surd((10, 5, -3), 1), "j01"), (2, (1, 2), "p3"),
            (2, (3, 5), "j01")))
        self.assertEqual(RUN.followed(name="p0")[0], (0, None, "p0"))

    def test_the_run_back_is_the_run_turned_about(self):
        back = RUN.back()
        for name in all_names():
            ahead = [[row[2] for row in RUN.followed(name) if row[0] == at] for at in range(3)]
            behind = [[row[2] for row in back.followed(name) if row[0] == at] for at in range(3)]
            self.assertEqual([[rows[0]] + rows[:0:-1] for rows in ahead[::-1]], behind)

    def test_errors(self):
        for value in NO_NAMES:
            self.refused(BadName, "name", RUN.followed, value)

    def test_lines_and_weights_along_a_run(self):
        # At each moment that is told by a number the surface has as many lines as names stand, with weights of 27.
        for stroke in RUN.strokes:
            for time, bars, why in stroke.moments:
                if not isinstance(time, Surd):
                    pins = stroke.pins_at(time)
                    rows = told_lines(Surface(pins))
                    self.assertEqual(sum(row[2] for row in rows), 27)
                    self.assertEqual([row[0] for row in rows], [name for name, _ in weights_of(pins)])
                    self.assertEqual(sum(row[2] for row in told_planes(Surface(pins))), 45)


class PaperTest(Case):

    def test_halts(self):
        told = Halts([1], Same(0, 1))
        self.assertEqual((told.word, bool(told), told.parts), ("halts", False, ((1,), Same(0, 1))))
        self.assertIsInstance(told, Denial)
        self.assertIsInstance(told, Paper)
        self.assertEqual((told.row, told.why), ((1,), Same(0, 1)))
        self.assertEqual(Halts(why=Same(0, 1), row=[1]), told)
        self.assertNotEqual(Halts(1, Same(0, 1)), Halts(1, Same(0, 2)))


if __name__ == "__main__":
    unittest.main()

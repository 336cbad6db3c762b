"""The 27 names: classes, trios, sixes and arrays."""

import unittest
from itertools import combinations, permutations, product

from sixpins.errors import BadName, BadNames, BadRow
from sixpins.names import (all_arrays, all_names, all_sixes, all_trios, array_of, class_of, is_six, name_of, pairs_of,
                           partner_of, times_met, trios_of)
from tests.samples import NO_NAMES
from tests.support import Case, ODD, Source, dotted, listed, wrong_rows

PLANE_CLASS = (3, 1, 1, 1, 1, 1, 1)


def classes_by_hand():
    """The names with their classes, as the document tells them, in their order."""
    told = {}
    for k in range(6):
        told[f"p{k}"] = (0, *(-int(pin == k) for pin in range(6)))
    for k, m in combinations(range(6), 2):
        told[f"j{k}{m}"] = (1, *(int(pin in (k, m)) for pin in range(6)))
    for k in range(6):
        told[f"c{k}"] = (2, *(int(pin != k) for pin in range(6)))
    return told


CLASSES = classes_by_hand()
NAMES = tuple(CLASSES)
AT = {name: at for at, name in enumerate(NAMES)}


def met_by_hand(one, other):
    """How often two names meet."""
    first, second = CLASSES[one], CLASSES[other]
    return first[0] * second[0] - dotted(first[1:], second[1:])


TRIOS = tuple(trio for trio in combinations(NAMES, 3)
              if all(met_by_hand(*pair) == 1 for pair in combinations(trio, 2)))


def sixes_by_hand():
    """The sixes, grown name by name."""
    told = [(name,) for name in NAMES]
    for _ in range(5):
        told = [row + (name,) for row in told for name in NAMES[AT[row[-1]] + 1:]
                if not any(met_by_hand(name, one) for one in row)]
    return tuple(told)


def ways_by_hand(rows):
    """The 72 ways in which an array is told."""
    told = []
    for turned in (rows, tuple(zip(*rows))):
        for down, along in product(permutations(range(3)), repeat=2):
            told.append(tuple(tuple(turned[at][place] for place in along) for at in down))
    return told


def order(value):
    """What a name, or tuples of names, are ascending by."""
    return AT[value] if isinstance(value, str) else tuple(order(part) for part in value)


class NamesTest(Case):

    def test_all_names(self):
        self.same(all_names(), NAMES)
        self.assertEqual(len(NAMES), 27)

    def test_classes_there_and_back(self):
        for name, row in CLASSES.items():
            self.same(class_of(name), row)
            self.same(name_of(row), name)
            self.same(name_of(row=list(row)), name)
        self.same(class_of(name="c5"), (2, 1, 1, 1, 1, 1, 0))

    def test_rows_that_are_no_class(self):
        for value in wrong_rows(7):
            self.refused(BadRow, "row", name_of, value)
        for row in ((1, 1, 1, 1, 0, 0, 0), (2, 1, 1, 1, 1, 1, 1), PLANE_CLASS, (0, 1, 0, 0, 0, 0, 0), (1, 0, 0, 0, 0, 0, 0),
                    (2, 2, 2, 0, 0, 0, 0), (0, -1, 0, 0, 0, 0), (0, -1, 0, 0, 0, 0, 0, 0), (1, 1, True, 0, 0, 0, 0),
                    (False, -1, 0, 0, 0, 0, 0), (1.0, 1, 1, 0, 0, 0, 0), "0-100000", {0: 1}, [(1, 1, 1, 0, 0, 0, 0)]):
            self.refused(BadRow, "row", name_of, row)
            self.refused(BadRow, "row", name_of, listed(row))
        for row in product((0, 1), repeat=7):
            if row not in CLASSES.values():
                self.refused(BadRow, "row", name_of, row)

    def test_times_met(self):
        for one, other in product(NAMES, repeat=2):
            self.same(times_met(one, other), met_by_hand(one, other))
            self.assertIn(times_met(one, other), (-1,) if one == other else (0, 1))
        for name in NAMES:
            self.assertEqual([times_met(name, other) for other in NAMES].count(1), 10)
        self.same(times_met(other="c1", one="p0"), 1)

    def test_errors(self):
        for value in NO_NAMES:
            for call in (class_of, trios_of, pairs_of):
                self.refused(BadName, "name", call, value)
            self.refused(BadName, "one", times_met, value, "p0")
            self.refused(BadName, "one", times_met, value, value)
            self.refused(BadName, "other", times_met, "p0", value)


class TriosTest(Case):

    def test_all_trios(self):
        self.same(all_trios(), TRIOS)
        self.assertEqual(len(TRIOS), 45)
        for trio in TRIOS:
            self.assertEqual(tuple(map(sum, zip(*(CLASSES[name] for name in trio)))), PLANE_CLASS)

    def test_trios_and_pairs_of_a_name(self):
        for name in NAMES:
            mine = tuple(trio for trio in TRIOS if name in trio)
            self.assertEqual(len(mine), 5)
            self.same(trios_of(name), mine)
            pairs = tuple(tuple(one for one in trio if one != name) for trio in mine)
            self.same(pairs_of(name), tuple(sorted(pairs, key=order)))
            self.assertEqual(len({one for pair in pairs for one in pair}), 10)
        self.same(trios_of(name="p0"), trios_of("p0"))
        self.same(pairs_of(name="p0"), pairs_of("p0"))


class SixesTest(Case):

    def test_all_sixes(self):
        told = all_sixes()
        self.same(told, sixes_by_hand())
        self.assertEqual(len(told), 72)
        for name in NAMES:
            self.assertEqual(sum(name in six for six in told), 16)

    def test_partners(self):
        source = Source(141)
        for six in all_sixes():
            orders = [six, six[::-1], tuple(sorted(six, key=lambda name: source.below(1000)))]
            for told in orders:
                partner = partner_of(told)
                self.assertIs(is_six(told), True)
                self.assertIs(is_six(partner), True)
                for at, name in enumerate(partner):
                    self.assertEqual([met_by_hand(name, one) for one in told], [int(at != k) for k in range(6)])
                self.same(partner_of(list(partner)), told)
        self.same(partner_of(six=["p0", "p1", "p2", "p3", "p4", "p5"]), ("c0", "c1", "c2", "c3", "c4", "c5"))

    def test_no_sixes(self):
        six = all_sixes()[7]
        wrong = [six[:5], six + six[:1], six[:5] + six[:1], six[:5] + ("p9",), six[:5] + (None,), six[:5] + (["p0"],),
                 [six], "p0 p1 p2 p3 p4 p5", set(six), dict.fromkeys(six), 6, (), [], *ODD]
        wrong += [six[:5] + (name,) for name in NAMES if name != six[5]]
        wrong += [row[:at] + (row[0],) + row[at + 1:] for row in (six,) for at in range(1, 6)]
        wrong += [six[:5] + (value,) for value in NO_NAMES]
        for value in wrong:
            self.assertIs(is_six(value), False)
            self.refused(BadNames, "six", partner_of, value)

    def test_is_six_of_all_choices_of_some_names(self):
        told = {frozenset(six) for six in all_sixes()}
        for row in combinations(NAMES[:12], 6):
            self.assertIs(is_six(row), frozenset(row) in told)
            self.assertIs(is_six(list(row[::-1])), frozenset(row) in told)


class ArraysTest(Case):

    def test_all_arrays(self):
        told = all_arrays()
        self.assertEqual(len(told), 120)
        self.assertEqual(list(told), sorted(told, key=order))
        self.assertEqual(len(set(told)), 120)
        for rows in told:
            for trio in (*rows, *zip(*rows)):
                self.assertIn(tuple(sorted(trio, key=order)), TRIOS)
            self.assertEqual(len({name for row in rows for name in row}), 9)
            self.same(rows, min(ways_by_hand(rows), key=order))

    def test_lots_of_three(self):
        # The names that are not in an array make up just two others, so none is left out of the 120.
        arrays = [frozenset(name for row in rows for name in row) for rows in all_arrays()]
        self.assertEqual(len(set(arrays)), 120)
        for mine in arrays:
            others = [other for other in arrays if not mine & other]
            self.assertEqual(len(others), 2)
            self.assertFalse(others[0] & others[1])

    def test_any_of_its_ways(self):
        for rows in all_arrays()[::13]:
            ways = ways_by_hand(rows)
            self.assertEqual(len(set(ways)), 72)
            for way in ways:
                self.same(array_of(way), rows)
                self.same(array_of(rows=listed(way)), rows)

    def test_no_arrays(self):
        rows = all_arrays()[5]
        for one, other in combinations(range(9), 2):
            flat = [name for row in rows for name in row]
            flat[one], flat[other] = flat[other], flat[one]
            changed = [flat[:3], flat[3:6], flat[6:]]
            self.refused(BadNames, "rows", array_of, changed)
        for at, name in product(range(9), NAMES):
            flat = [name for row in rows for name in row]
            if flat[at] != name:
                flat[at] = name
                self.refused(BadNames, "rows", array_of, [flat[:3], flat[3:6], flat[6:]])

    def test_values_of_all_kinds(self):
        rows = all_arrays()[5]
        trio = TRIOS[0]
        turned = [trio, trio[1:] + trio[:1], trio[2:] + trio[:2]]
        wrong = [*ODD, 5, [], (), rows[:2], rows + rows[:1], [name for row in rows for name in row], [rows] * 3,
                 [row[:2] for row in rows], [rows[0], rows[1], None], [rows[0], rows[1], "p0"], turned, [trio] * 3,
                 [rows[0], rows[1], {1: 2}], [rows[0], rows[1], ["p0", "p1", 7]], "p0 j01 c1", [set(row) for row in rows]]
        wrong += [[rows[0], rows[1], rows[2][:2] + (value,)] for value in NO_NAMES]
        for value in wrong:
            self.refused(BadNames, "rows", array_of, value)


if __name__ == "__main__":
    unittest.main()

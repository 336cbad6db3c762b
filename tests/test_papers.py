"""Papers, denials, and fixed values."""

import unittest

from sixpins.papers import Denial, Paper, fixed
from tests.support import Case, ODD, Pair, Thing, listed


def nested(depth, wrap):
    """One value, so many lists or tuples deep."""
    value = 7
    for _ in range(depth):
        value = wrap([value])
    return value


class FixedTest(Case):

    def test_lists_become_tuples(self):
        self.same(fixed([1, [2, (3, [4])], ()]), (1, (2, (3, (4,))), ()))
        self.same(fixed([]), ())
        self.same(fixed(((1, 2), [[]])), ((1, 2), ((),)))

    def test_thirty_deep(self):
        self.same(fixed(nested(30, list)), nested(30, tuple))
        self.same(fixed([nested(29, list), "a"]), (nested(29, tuple), "a"))

    def test_tuples_are_of_the_class_tuple(self):
        self.same(fixed(Pair([1], Pair(2, 3))), ((1,), (2, 3)))

    def test_other_values_stay(self):
        for value in ODD + (5, -5, 10 ** 100, [].append):
            self.assertIs(fixed(value), value)
        for value in ODD:
            self.assertIs(fixed([value])[0], value)

    def test_dicts_stay(self):
        told = {"a": [1, [2]], "b": (3, [4])}
        self.assertIs(fixed(told), told)
        self.assertIs(fixed([[told]])[0][0], told)
        self.assertEqual(told, {"a": [1, [2]], "b": (3, [4])})

    def test_papers_stay(self):
        note = Paper("note", [1])
        self.assertIs(fixed(note), note)
        self.assertIs(fixed([note])[0], note)

    def test_what_is_passed_is_not_changed(self):
        told = [1, [2, [3]]]
        fixed(told)
        self.same(told, [1, [2, [3]]])

    def test_by_name(self):
        self.same(fixed(value=[1]), (1,))


class PaperTest(Case):

    def test_truth(self):
        for parts in ((), (0,), (False,), ([],), (1, 2)):
            self.assertIs(bool(Paper("note", *parts)), True)
            self.assertIs(bool(Denial("note", *parts)), False)
        self.assertIs(not Denial("no", 1), True)

    def test_classes(self):
        self.assertIsInstance(Denial("no"), Paper)
        self.assertNotIsInstance(Paper("no"), Denial)
        self.assertEqual(Denial.__bases__, (Paper,))

    def test_word_and_parts(self):
        for made in (Paper, Denial):
            note = made("note", [1, [2]], "two", {"a": [1]})
            self.assertEqual(note.word, "note")
            self.same(note.parts, ((1, (2,)), "two", {"a": [1]}))
            self.same(made("bare").parts, ())
            self.assertEqual(made(word="bare").word, "bare")

    def test_parts_thirty_deep(self):
        for made in (Paper, Denial):
            self.same(made("deep", nested(30, list)).parts, (nested(30, tuple),))

    def test_parts_of_any_kind(self):
        for value in ODD:
            self.assertIs(Paper("note", value).parts[0], value)
            self.assertIs(Denial("no", [value]).parts[0][0], value)

    def test_what_was_passed_may_change_afterwards(self):
        inner = [2]
        told = [1, inner]
        for made in (Paper, Denial):
            note = made("note", told, inner)
            self.same(note.parts, ((1, (2,)), (2,)))
            inner.append(3)
            told.append(4)
            self.same(note.parts, ((1, (2,)), (2,)))
            inner.pop()
            told.pop()

    def test_a_dict_within_is_the_one_passed(self):
        told = {"a": [1]}
        note = Paper("note", [told])
        self.assertIs(note.parts[0][0], told)


class EqualTest(Case):

    def equal(self, one, other):
        self.assertIs(one == other, True)
        self.assertIs(other == one, True)
        self.assertIs(one != other, False)
        self.assertIs(other != one, False)

    def unlike(self, one, other):
        self.assertIs(one == other, False)
        self.assertIs(other == one, False)
        self.assertIs(one != other, True)
        self.assertIs(other != one, True)

    def test_equal(self):
        for made in (Paper, Denial):
            self.equal(made("note"), made("note"))
            self.equal(made("note", 1, [2]), made("note", 1, (2,)))
            self.equal(made("note", [1, [2, [3]]]), made("note", (1, (2, (3,)))))
            self.equal(made("note", True, 1.0), made("note", 1, 1))
            self.equal(made("note", made("inner", [1])), made("note", made("inner", (1,))))

    def test_unlike_words_and_parts(self):
        for made in (Paper, Denial):
            self.unlike(made("note", 1), made("other", 1))
            self.unlike(made("note", 1), made("note", 2))
            self.unlike(made("note", 1), made("note"))
            self.unlike(made("note", 1, 2), made("note", (1, 2)))
            self.unlike(made("note", 1, 2), made("note", 2, 1))
            self.unlike(made("note", "1"), made("note", 1))
            self.unlike(made("note", made("inner", 1)), made("note", made("inner", 2)))

    def test_unlike_classes(self):
        self.unlike(Paper("note"), Denial("note"))
        self.unlike(Paper("note", 1), Denial("note", 1))
        self.unlike(Paper("note", Paper("a")), Paper("note", Denial("a")))

    def test_values_of_other_kinds(self):
        for made in (Paper, Denial):
            note = made("note", 1)
            for value in (None, True, 1, "note", ("note", 1), ["note", (1,)], (1,), {}, Thing(), Paper, 2.5):
                self.unlike(note, value)

    def test_passed_again(self):
        told = [[1, 2], {"a": [3]}]
        self.equal(Paper("note", told), Paper("note", listed(told)))


if __name__ == "__main__":
    unittest.main()

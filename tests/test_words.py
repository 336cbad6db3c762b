"""Words of letters, and the renamings that they say."""

import unittest

from sixpins.errors import BadRenaming, BadText
from sixpins.names import all_sixes
from sixpins.renamings import Renaming, pins_swapped, pins_turned, six_exchanged
from sixpins.words import said_by, word_of
from tests.samples import NO_OBJECTS
from tests.support import Case, ODD, Source
from tests.test_names import NAMES
from tests.test_renamings import drawn_six, led_by_hand

LETTERS = {"01": pins_swapped(0, 1), "12": pins_swapped(1, 2), "23": pins_swapped(2, 3), "34": pins_swapped(3, 4),
           "45": pins_swapped(4, 5), "012": pins_turned(0, 1, 2)}
MAPS = {letter: led_by_hand(renaming.six) for letter, renaming in LETTERS.items()}
LONGEST = Renaming(["c5", "c4", "c3", "c2", "c1", "c0"])


def drawn_word(source, many):
    """A word of so many letters."""
    return tuple(sorted(LETTERS)[source.below(6)] for _ in range(many))


def six_of(word):
    """The six to which a word leads p0 .. p5, letter by letter."""
    six = NAMES[:6]
    for letter in word:
        six = tuple(MAPS[letter][name] for name in six)
    return six


def roots():
    """The 36 roots, as the document tells them."""
    told = [(2, 1, 1, 1, 1, 1, 1)]
    for one in range(6):
        for other in range(one + 1, 6):
            told.append((0, *(-1 if pin == one else int(pin == other) for pin in range(6))))
            told.extend((1, *(int(pin in (one, other, third)) for pin in range(6))) for third in range(other + 1, 6))
    return told


def many_negative(renaming):
    """How many roots a renaming leads to negatives of roots."""
    all_roots = roots()
    negatives = [tuple(-part for part in root) for root in all_roots]
    pictures = [renaming.led_class(root) for root in all_roots]
    assert all(picture in all_roots or picture in negatives for picture in pictures)
    return sum(picture in negatives for picture in pictures)


class SaidTest(Case):

    def test_letters(self):
        for letter, renaming in LETTERS.items():
            told = said_by([letter])
            self.assertIs(type(told), Renaming)
            self.assertEqual(told, renaming)
            self.assertEqual(said_by((letter, letter)), Renaming.still())

    def test_the_first_letter_is_done_first(self):
        self.same(said_by(["01", "12"]).six, ("p2", "p0", "p1", "p3", "p4", "p5"))
        self.assertEqual(said_by(["01", "12"]), LETTERS["12"] * LETTERS["01"])
        self.same(said_by(["01", "012"]).six, ("j02", "j12", "j01", "p3", "p4", "p5"))
        self.same(said_by(["23", "012"]).six, ("j12", "j02", "p3", "j01", "p4", "p5"))
        self.same(said_by(["012", "23"]).six, ("j13", "j03", "j01", "p2", "p4", "p5"))

    def test_words_of_none_to_forty_letters(self):
        source = Source(301)
        for many in range(41):
            for _ in range(3):
                word = drawn_word(source, many)
                told = said_by(list(word))
                self.same(told.six, six_of(word))
                self.assertEqual(said_by(word=word), told)
                self.assertEqual(said_by(word[::-1]), told.undone())

    def test_one_word_behind_another(self):
        source = Source(302)
        for _ in range(30):
            one, other = drawn_word(source, source.below(20)), drawn_word(source, source.below(20))
            self.assertEqual(said_by(one + other), said_by(other) * said_by(one))

    def test_no_letter(self):
        self.assertEqual(said_by([]), Renaming.still())
        self.assertEqual(said_by(()), Renaming.still())

    def test_long_words(self):
        word = drawn_word(Source(303), 19_999)
        self.same(said_by(word).six, six_of(word))

    def test_errors(self):
        for value in ODD + (5, "01", "012", Renaming.still(), {"01": 1}, LETTERS):
            self.refused(BadText, "word", said_by, value)
        for value in ODD + (5, 1, 12, "02", "10", "0", "13", "123", "021", "56", "01 ", " 01", "0 1", "p0", b"01", ("01",),
                            ["01"], (0, 1), Renaming.still(), LETTERS["01"]):
            self.refused(BadText, "word", said_by, [value])
            self.refused(BadText, "word", said_by, ("01", "12", value))
            self.refused(BadText, "word", said_by, (value, "01", value))


class WordTest(Case):

    def check(self, renaming):
        """All that is told of the word of a renaming; it is returned."""
        word = word_of(renaming)
        self.assertIs(type(word), tuple)
        self.assertTrue(all(type(letter) is str and letter in LETTERS for letter in word))
        self.assertEqual(said_by(word), renaming)
        self.same(six_of(word), renaming.six)
        self.assertEqual(len(word), many_negative(renaming))
        self.assertEqual(word_of(Renaming(list(renaming.six))), word)
        return word

    def test_drawn_renamings(self):
        source = Source(304)
        for _ in range(60):
            self.check(Renaming(drawn_six(source)))

    def test_each_six(self):
        longest = [len(self.check(Renaming(six))) for six in all_sixes()]
        self.assertEqual(longest.count(0), 1)

    def test_drawn_words_are_no_shorter(self):
        source = Source(305)
        for many in range(41):
            word = drawn_word(source, many)
            told = self.check(said_by(word))
            self.assertLessEqual(len(told), many)
            self.assertEqual((len(told) - many) % 2, 0)

    def test_no_shorter_word_by_going_through_all(self):
        # All renamings that words of up to four letters say, with the least number of letters.
        least = {NAMES[:6]: 0}
        for many in range(1, 5):
            for six in [six for six, letters in least.items() if letters == many - 1]:
                for picture in MAPS.values():
                    least.setdefault(tuple(picture[name] for name in six), many)
        for six, many in least.items():
            self.assertEqual(len(word_of(Renaming(six))), many)

    def test_the_longest(self):
        self.assertEqual(len(self.check(LONGEST)), 36)
        for letter, renaming in LETTERS.items():
            self.assertEqual(len(self.check(LONGEST * renaming)), 35)
            self.assertEqual(len(self.check(renaming * LONGEST)), 35)

    def test_known_words(self):
        self.same(word_of(Renaming.still()), ())
        for letter, renaming in LETTERS.items():
            self.same(word_of(renaming), (letter,))
        self.same(word_of(pins_swapped(0, 1) * pins_swapped(1, 2)), ("12", "01"))
        self.assertEqual(len(self.check(six_exchanged(NAMES[:6]))), 21)

    def test_undone(self):
        source = Source(306)
        for _ in range(20):
            told = Renaming(drawn_six(source))
            self.assertEqual(len(word_of(told.undone())), len(word_of(told)))

    def test_errors(self):
        for value in NO_OBJECTS + (NAMES[:6], ("01",), "p0 p1 p2 p3 p4 p5", Renaming):
            self.refused(BadRenaming, "renaming", word_of, value)
        self.same(word_of(renaming=Renaming.still()), ())


class TextTest(Case):

    def test_texts_of_what_words_say(self):
        source = Source(307)
        for many in range(0, 41, 4):
            told = said_by(drawn_word(source, many))
            self.same(str(told), " ".join(told.six))
            self.assertEqual(Renaming.read(str(told)), told)
            self.assertEqual(word_of(Renaming.read(str(told))), word_of(told))
        self.same(str(said_by(word_of(LONGEST))), "c5 c4 c3 c2 c1 c0")

    def test_bent_texts(self):
        text = str(said_by(("012", "23", "12")))
        for value in (text + " ", " " + text, text.replace(" ", "  "), text.replace(" ", ","), text[1:], text + " p0",
                      text.replace("p4", "p5"), text.upper(), " ".join(word_of(Renaming.read(text))), ""):
            self.refused(BadText, "text", Renaming.read, value)


if __name__ == "__main__":
    unittest.main()

"""Texts of forms, and the listing of the lines of a surface."""

import unittest

from sixpins.errors import BadForm, BadNumber, BadSurface, BadText
from sixpins.lines import told_lines
from sixpins.pins import Pins
from sixpins.surface import Surface
from sixpins.texts import form_text, listing, read_form
from tests.samples import CORNERS, NO_SURFACES, SURFACES, shuffled
from tests.support import Case, ODD, ODD_INTEGERS, Source, monomials_by_hand

WRONG_LETTERS = ODD_INTEGERS + (0, 1, 5, -2)
WRONG_DEGREES = ODD_INTEGERS + (-1, 7)


def text_by_hand(form, letters, degree):
    """The text of a form, term by term."""
    told = []
    for number, powers in zip(form, monomials_by_hand(letters, degree)):
        if number:
            word = "".join("abcd"[at] * power for at, power in enumerate(powers))
            size = str(abs(number))
            term = size if not word else word if size == "1" else size + "*" + word
            told.append(("-" if number < 0 else "+", term))
    if not told:
        return "0"
    text = ("-" if told[0][0] == "-" else "") + told[0][1]
    return text + "".join(f" {sign} {term}" for sign, term in told[1:])


class FormTextTest(Case):

    def check(self, form, letters, degree):
        text = form_text(form, letters, degree)
        self.same(text, text_by_hand(form, letters, degree))
        self.same(form_text(list(form), letters, degree), text)
        self.same(read_form(text, letters, degree), tuple(form))

    def test_there_and_back(self):
        source = Source(431)
        for letters in (2, 3, 4):
            for degree in range(7):
                many = len(monomials_by_hand(letters, degree))
                for most in (1, 3, 10 ** 30):
                    self.check(source.row(many, most), letters, degree)
                self.check((0,) * many, letters, degree)
                for at in range(0, many, 5):
                    for number in (1, -1, 2, -10, 10 ** 59, 1 - 10 ** 60):
                        self.check([number if place == at else 0 for place in range(many)], letters, degree)

    def test_surfaces(self):
        for name, spots in shuffled(432):
            text = form_text(Surface(Pins(spots)).form, 4, 3)
            self.same(text, text_by_hand(Surface(Pins(spots)).form, 4, 3))
        self.same(form_text(CORNERS.form, 4, 3), "abd - acc - bcc - 2*ccc - ccd")

    def test_known(self):
        self.same([form_text([1, 0, -2], 2, 2), form_text([0, -1, 1], 3, 1), form_text((0, 0), 2, 1), form_text([-5], 4, 0)],
                  ["aa - 2*bb", "-b + c", "0", "-5"])
        self.same([form_text([1], 2, 0), form_text([-1], 3, 0), form_text([0], 2, 0), form_text([10], 4, 0)],
                  ["1", "-1", "0", "10"])
        self.same(form_text(degree=2, form=[-1, 2, 1], letters=2), "-aa + 2*ab + bb")
        self.same(form_text([10 ** 100 + 1, 0], 2, 1), "1" + "0" * 99 + "1*a")

    def test_errors(self):
        for value in WRONG_LETTERS:
            self.refused(BadNumber, "letters", form_text, [1], value, 0)
            self.refused(BadNumber, "letters", form_text, None, value, None)
            self.refused(BadNumber, "letters", read_form, "0", value, 0)
            self.refused(BadNumber, "letters", read_form, None, value, None)
        for value in WRONG_DEGREES:
            self.refused(BadNumber, "degree", form_text, [1], 2, value)
            self.refused(BadNumber, "degree", form_text, None, 2, value)
            self.refused(BadNumber, "degree", read_form, "0", 2, value)
            self.refused(BadNumber, "degree", read_form, None, 2, value)
        for value in ODD + (5, [], (), [1, 2], [1, 2, 3, 4], [1, None, 3], [1, True, 3], [1, 2.0, 3], [[1], 2, 3], [(1, 2, 3)],
                            "aa"):
            self.refused(BadForm, "form", form_text, value, 2, 2)


class ReadFormTest(Case):

    def wrong(self, text, letters, degree):
        self.refused(BadText, "text", read_form, text, letters, degree)

    def test_known(self):
        self.same([read_form("aa - 2*bb", 2, 2), read_form("-b + c", 3, 1), read_form("0", 2, 1), read_form("1", 2, 0)],
                  [(1, 0, -2), (0, -1, 1), (0, 0), (1,)])
        self.same(read_form(degree=0, text="-12", letters=3), (-12,))
        self.same(read_form("9" * 60 + "*a", 2, 1), (10 ** 60 - 1, 0))

    def test_bent_texts(self):
        for text in ("", " ", "-", "+", "*", "--", "aa-2*bb", "aa -2*bb", "aa- 2*bb", "aa  - 2*bb", "aa - 2*bb ", " aa - 2*bb",
                     "aa - 2 *bb", "aa - 2* bb", "aa - 2**bb", "aa - 2bb", "aa - bb*2", "+aa - 2*bb", "+ aa", "- aa", "--aa",
                     "aa + -2*bb", "aa - -2*bb", "1*aa", "aa - 1*bb", "-1*aa", "0*aa", "aa + 0*bb", "02*aa", "aa - 02*bb",
                     "bb + aa", "aa + aa", "aa + ab + aa", "ab + ab", "ba", "2*ba", "aA", "AA", "aac", "cc", "a", "aaa", "a*a",
                     "2", "1", "-0", "00", "0 + aa", "aa + 0", "aa - 0", "aa +", "aa + ", "aa bb", "aa * bb", "aa / bb",
                     "aa\n", "\taa", "aa\t- bb", "aa - 2*bb - ", "2*", "*aa", "2*3*aa", "2.0*aa", "2e1*aa", "aa^2", "a2",
                     "aa - \u0662*bb", "\u00b2*aa", "\uff12*aa", "aa \u2212 bb", "aa = bb", "aa + + bb", "aa - 2*bb\u00a0",
                     "9" * 61 + "*aa", "aa + " + "9" * 61 + "*bb", "1" * 20_000, "a" * 20_000, "aa + " * 4_000,
                     "-" * 20_000, " " * 20_000, "aa - 2*bb" * 2, "None", "aa - 2*bb + ab", "ab - aa"):
            with self.subTest(text=text[:30]):
                self.wrong(text, 2, 2)

    def test_bent_texts_of_degree_0(self):
        for text in ("", "-0", "+1", "01", "1 ", " 1", "1*", "*1", "a", "1*a", "--1", "- 1", "1 + 1", "1 - 1", "1.0", "1_0",
                     "\u0661", "9" * 61, "-" + "9" * 61, "0x1", "00", "-00"):
            self.wrong(text, 2, 0)
        self.same(read_form("9" * 60, 2, 0), (10 ** 60 - 1,))

    def test_letters_and_degrees_count(self):
        self.same(read_form("aab", 2, 3), (0, 1, 0, 0))
        self.wrong("aab", 2, 2)
        self.wrong("aab", 2, 4)
        self.wrong("abc", 2, 3)
        self.same(read_form("abc", 3, 3), (0, 0, 0, 0, 1, 0, 0, 0, 0, 0))
        self.wrong("abd", 3, 3)
        self.same(read_form("d", 4, 1), (0, 0, 0, 1))
        self.wrong("e", 4, 1)

    def test_one_sign_changed(self):
        # Each text read is the text of what is read.
        text = "2*aab - abb + 13*bbb"
        for at in range(len(text) + 1):
            for sign in "ab+- *0123c":
                for bent in (text[:at] + sign + text[at:], text[:at] + sign + text[at + 1:], text[:at] + text[at + 1:]):
                    try:
                        form = read_form(bent, 2, 3)
                    except BadText:
                        continue
                    self.assertEqual(text_by_hand(form, 2, 3), bent)

    def test_values_of_all_kinds(self):
        for value in ODD + (5, ["aa"], ("aa",), ["a", "a"], b"aa", 0, [], (1, 0, 0)):
            self.wrong(value, 2, 2)


class ListingTest(Case):

    def check(self, surface):
        told = listing(surface)
        rows = []
        for name, line, weight in told_lines(surface):
            places = ["  " + ",".join(str(number) for number in place) for place in line]
            rows.append(name + " " * (4 - len(name)) + f" {weight}" + "".join(places))
        self.same(told, tuple(rows))

    def test_surfaces(self):
        for name, surface in SURFACES:
            self.check(surface)
        for name, spots in shuffled(433):
            self.check(Surface(Pins(spots)))

    def test_known(self):
        told = listing(surface=CORNERS)
        self.same([told[0], told[3], told[6], len(told)],
                  ["p0   4  1,0,0,0  0,1,0,0", "p3   4  1,1,-1,0  0,0,0,1", "j03  1  2,0,-1,0  0,2,-1,0", 9])

    def test_errors(self):
        for value in NO_SURFACES:
            self.refused(BadSurface, "surface", listing, value)


if __name__ == "__main__":
    unittest.main()

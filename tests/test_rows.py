"""Plain rows and their texts."""

import unittest
from re import fullmatch

from sixpins.errors import BadNumber, BadRow, BadText
from sixpins.rows import place_row, plain_row, read_row, row_text, spot_row
from tests.support import Case, ODD, ODD_INTEGERS, Pair, Source, plain_by_hand

SIXTY = 10 ** 59 + 3
SIXTY_ONE = 10 ** 60 + 7


class PlainRowTest(Case):

    def test_lengths(self):
        for many in range(1, 31):
            self.same(plain_row((2,) * many), (1,) * many)
            self.same(plain_row([-3] + [0] * (many - 1)), (1,) + (0,) * (many - 1))

    def test_wrong_lengths(self):
        for row in ((), [], (1,) * 31, [1] * 31, (1,) * 40):
            self.refused(BadRow, "row", plain_row, row)

    def test_zeros(self):
        for many in (1, 2, 3, 4, 30):
            self.refused(BadRow, "row", plain_row, (0,) * many)
        self.refused(BadRow, "row", spot_row, (0, 0, 0))
        self.refused(BadRow, "row", place_row, [0, 0, 0, 0])

    def test_signs_and_divisors(self):
        for row, told in (((-4, 6), (2, -3)), ((0, 0, -6, 9), (0, 0, 2, -3)), ((6, 10, 15), (6, 10, 15)),
                          ((12, -18, 30), (2, -3, 5)), ((-1, -1), (1, 1)), ((0, -5), (0, 1)), ((-7,), (1,)),
                          ((5, 0, 0), (1, 0, 0)), ((-2, 0, 4), (1, 0, -2)), ((3, -6), (1, -2))):
            with self.subTest(row):
                self.same(plain_row(row), told)
                self.same(plain_row(list(row)), told)
                self.same(plain_row(told), told)

    def test_many_rows(self):
        source = Source(11)
        for _ in range(200):
            row = source.nonzero(source.within(1, 30), 10 ** source.within(1, 30))
            scaled = [source.within(1, 99) * -number for number in row]
            for told in (row, scaled):
                self.same(plain_row(told), plain_by_hand(told))

    def test_by_name_and_by_other_tuples(self):
        self.same(plain_row(row=[2, 4]), (1, 2))
        self.same(spot_row(row=[2, 4, 6]), (1, 2, 3))
        self.same(place_row(row=[2, 4, 6, 8]), (1, 2, 3, 4))
        self.same(plain_row(Pair(2, 4)), (1, 2))

    def test_what_is_passed_is_not_changed(self):
        row = [-2, 4, 0]
        plain_row(row)
        spot_row(row)
        self.assertEqual(row, [-2, 4, 0])

    def test_other_values(self):
        for call in (plain_row, spot_row, place_row):
            for value in ODD + (0, 1, 5):
                self.refused(BadRow, "row", call, value)
            for value in ODD + ([], (1,)):
                self.refused(BadRow, "row", call, (value, 1, 1))
                self.refused(BadRow, "row", call, [1, 1, 1, value])

    def test_spots_and_places(self):
        for many in range(0, 9):
            row = (0, -2, 4, 6, 8, 10, 12, 14, 16)[:many]
            for call, right in ((spot_row, 3), (place_row, 4)):
                with self.subTest(many=many, right=right):
                    if many == right:
                        self.same(call(row), (0, 1, -2, -3)[:many])
                    else:
                        self.refused(BadRow, "row", call, row)


class TextTest(Case):

    def test_there_and_back(self):
        source = Source(3)
        for _ in range(200):
            row = plain_by_hand(source.nonzero(source.within(1, 30), 10 ** source.within(0, 25)))
            text = row_text(row)
            self.assertEqual(text, ",".join(str(number) for number in row))
            self.assertEqual(row_text(list(row)), text)
            self.same(read_row(text, len(row)), row)

    def test_ends_of_lengths(self):
        self.assertEqual(row_text((1,)), "1")
        self.same(read_row("1", 1), (1,))
        for many in (1, 2, 30):
            text = ",".join(["1"] * many)
            self.assertEqual(row_text((1,) * many), text)
            self.same(read_row(text, many), (1,) * many)

    def test_sixty_digits(self):
        for number in (SIXTY, -SIXTY):
            text = row_text((1, number))
            self.assertEqual(text, f"1,{number}")
            self.same(read_row(text, 2), (1, number))
        for number in (SIXTY_ONE, -SIXTY_ONE, 10 ** 3000 + 1, -(10 ** 3998)):
            text = row_text([1, number])
            self.assertEqual(text, f"1,{number}")
            self.refused(BadText, "text", read_row, text, 2)
        self.same(read_row("9" * 60 + ",1", 2), (10 ** 60 - 1, 1))
        self.refused(BadText, "text", read_row, "1" + "0" * 60 + ",1", 2)

    def test_rows_without_a_text(self):
        for value in ODD + (5, (), [], (0,), (0, 0), (2, 4), (-1, 2), (2,), (0, -1), (1,) * 31, [1] * 31, (1, True),
                            (1, None), (1, "2"), ((1, 2),), [[1, 2], [3, 4]]):
            self.refused(BadRow, "row", row_text, value)

    def test_bent_texts(self):
        for text, many in (("", 1), ("", 2), (",", 2), ("1,", 2), (",1", 2), ("1,,2", 2), ("1,,2", 3), ("1,2,", 2),
                           (",1,2", 2), ("1 ,2", 2), ("1, 2", 2), (" 1,2", 2), ("1,2 ", 2), ("1,2\n", 2),
                           ("\n1,2", 2), ("1\n,2", 2), ("1,2\r\n", 2), ("1,\t2", 2), ("+1,2", 2), ("1,+2", 2),
                           ("1,-0", 2), ("-0,1", 2), ("1,--2", 2), ("1,2-", 2), ("1,-", 2), ("-,1", 2), ("-1,2", 2),
                           ("01,2", 2), ("1,02", 2), ("1,-02", 2), ("1,00", 2), ("00,1", 2), ("1,-00", 2),
                           ("1;2", 2), ("1.2", 2), ("1.0,2", 2), ("1,2e1", 2), ("1,0x2", 2), ("1_0,1", 2), ("1,a", 2),
                           ("2,4", 2), ("0,0", 2), ("0", 1), ("2", 1), ("-1", 1), ("0,-1", 2), ("0,2", 2),
                           ("(1,2)", 2), ("[1,2]", 2), ("1,2\x00", 2), ("1,\u0662", 2), ("\u00b2,1", 2),
                           ("1,\uff12", 2), ("1,\u00bd", 2), ("1,\u22122", 2), ("1\u00a0,2", 2), ("one,2", 2)):
            with self.subTest(text):
                self.refused(BadText, "text", read_row, text, many)

    def is_plain_text(self, text, many):
        """Whether a text without long integers is that of a plain row, told by a pattern."""
        if not fullmatch(",".join(["(0|-?[1-9][0-9]*)"] * many), text):
            return False
        row = tuple(int(word) for word in text.split(","))
        return any(row) and plain_by_hand(row) == row

    def test_each_sign_changed(self):
        right = "1,-20,0,13"
        for at in range(len(right) + 1):
            for sign in "0123456789,-+ \n.x":
                for bent in (right[:at] + sign + right[at:], right[:at] + sign + right[at + 1:],
                             right[:at] + right[at + 1:]):
                    with self.subTest(bent):
                        if self.is_plain_text(bent, 4):
                            self.same(read_row(bent, 4), tuple(int(word) for word in bent.split(",")))
                        else:
                            self.refused(BadText, "text", read_row, bent, 4)

    def test_wrong_number_of_integers(self):
        text = "1,2,3"
        for many in range(1, 31):
            if many != 3:
                self.refused(BadText, "text", read_row, text, many)

    def test_no_texts(self):
        for value in ODD + (5, (1, 2), [1, 2], ["1,2"], b"1,2"):
            if not isinstance(value, str):
                self.refused(BadText, "text", read_row, value, 2)

    def test_many_is_refused_first(self):
        for value in ODD_INTEGERS + (0, 31, -1, 100):
            for text in ("1,2,3", "2,4", "", None, 5):
                self.refused(BadNumber, "many", read_row, text, value)
                self.refused(BadNumber, "many", read_row, many=value, text=text)

    def test_by_name(self):
        self.assertEqual(row_text(row=(1, 2)), "1,2")
        self.same(read_row(many=2, text="1,2"), (1, 2))


if __name__ == "__main__":
    unittest.main()

"""Plain rows, and their texts."""

from sixpins.checks import is_list, is_plain, is_row
from sixpins.errors import BadRow, BadText
from sixpins.given import given_integer, given_row
from sixpins.integers import plain

MOST_INTEGERS = 30
MOST_DIGITS = 60


def plain_row(row):
    """The plain row of a row of 1 to 30 integers."""
    if not is_list(row, 1, MOST_INTEGERS) or not is_row(row, len(row)):
        raise BadRow("row")
    return plain(row)


def spot_row(row):
    """The plain row of a row of three integers."""
    return given_row(row, 3, "row")


def place_row(row):
    """The plain row of a row of four integers."""
    return given_row(row, 4, "row")


def row_text(row):
    """The text of a plain row of 1 to 30 integers."""
    if not is_list(row, 1, MOST_INTEGERS) or not is_plain(row, len(row)):
        raise BadRow("row")
    return ",".join([str(number) for number in row])


def read_row(text, many):
    """The plain row of just so many integers of which this is the text."""
    given_integer(many, 1, MOST_INTEGERS, "many")
    if not isinstance(text, str):
        raise BadText("text")
    words = text.split(",")
    if not all([is_integer_text(word) for word in words]):
        raise BadText("text")
    row = tuple([int(word) for word in words])
    if not is_plain(row, many):
        raise BadText("text")
    return row


def is_integer_text(word):
    """Whether the word is the text of an integer, as short as can be."""
    digits = word.removeprefix("-")
    if not (digits.isascii() and digits.isdigit()) or len(digits) > MOST_DIGITS:
        return False
    return word == "0" or not digits.startswith("0")

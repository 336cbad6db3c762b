"""Texts of forms, and the listing of the lines of a surface."""

from sixpins.errors import BadText
from sixpins.falls import all_fallen, standing_numbers, those_on
from sixpins.forms import HALF_DEGREE, given_letters
from sixpins.given import given_form, given_integer
from sixpins.powers import many_monomials, monomials_of, places_of
from sixpins.roster import NAMES
from sixpins.rows import MOST_DIGITS, row_text
from sixpins.surface import given_surface

LETTERS = "abcd"


def form_text(form, letters, degree):
    """The text of a form, which may be all 0."""
    given_letters(letters)
    given_integer(degree, 0, HALF_DEGREE, "degree")
    return text_of(given_form(form, many_monomials(letters, degree), "form"), letters, degree)


def read_form(text, letters, degree):
    """The form of which this is the text."""
    given_letters(letters)
    given_integer(degree, 0, HALF_DEGREE, "degree")
    if not isinstance(text, str):
        raise BadText("text")
    form = form_by_terms(text, letters, degree)
    # Whatever the text tells beside the form, it is told in just one way.
    if form is None or text_of(form, letters, degree) != text:
        raise BadText("text")
    return form


def listing(surface):
    """For each standing name, in their order, a string with the name, its weight and its line."""
    told = given_surface(surface)
    onto = all_fallen(told.pins.bars)
    return tuple([listed_line(NAMES[number], len(those_on(onto, number)), told.lines[number])
                  for number in standing_numbers(told.pins.bars)])


def listed_line(name, weight, line):
    """The string of a name, its weight and its line."""
    return f"{name:<4}{weight:>2}  {row_text(line[0])}  {row_text(line[1])}"


def text_of(form, letters, degree):
    """The text of a form, without any checks."""
    text = ""
    for number, monomial in zip(form, monomials_of(letters, degree)):
        if number != 0:
            text = text + sign_ahead(number, text) + term_of(abs(number), monomial)
    return text or "0"


def sign_ahead(number, text):
    """What stands ahead of a term, behind this text."""
    if text == "":
        return "-" if number < 0 else ""
    return " - " if number < 0 else " + "


def term_of(size, monomial):
    """The term of a monomial, without its sign."""
    word = "".join([letter * power for letter, power in zip(LETTERS, monomial)])
    if word == "":
        return str(size)
    return word if size == 1 else f"{size}*{word}"


def form_by_terms(text, letters, degree):
    """The form of the terms of a text, whatever else stands in it; None if some of them are none."""
    places = places_of(letters, degree)
    numbers = [0] * len(places)
    words = text.removeprefix("-").split(" ")
    signs = ["-" if text.startswith("-") else "+"] + words[1::2]
    if text == "0":
        return tuple(numbers)
    for sign, word in zip(signs, words[::2]):
        size, monomial = size_and_monomial(word, letters, degree)
        if size is None or monomial not in places:
            return None
        numbers[places[monomial]] = -size if sign == "-" else size
    return tuple(numbers)


def size_and_monomial(word, letters, degree):
    """The size and the monomial of a term, as far as they can be read: None for what is no size."""
    size, star, rest = word.partition("*")
    if star == "":
        size, rest = ("1", word) if degree > 0 else (word, "")
    monomial = tuple([rest.count(letter) for letter in LETTERS[:letters]])
    if not (size.isascii() and size.isdigit()) or len(size) > MOST_DIGITS:
        return None, monomial
    return int(size), monomial

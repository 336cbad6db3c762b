"""Words: renamings as rows of letters."""

from sixpins.checks import is_list
from sixpins.classes import times_crossed
from sixpins.errors import BadText
from sixpins.integers import leading_place, mixed
from sixpins.renamings import Renaming, given_renaming, led_by, turned
from sixpins.roster import MANY_IN_SIX, MANY_NAMES, names_of

# Each letter stands for the turn at its root: the first five exchange two neighbouring pins.
LETTERS = ("01", "12", "23", "34", "45", "012")
ROOTS = ((0, -1, 1, 0, 0, 0, 0), (0, 0, -1, 1, 0, 0, 0), (0, 0, 0, -1, 1, 0, 0), (0, 0, 0, 0, -1, 1, 0),
         (0, 0, 0, 0, 0, -1, 1), (1, 1, 1, 1, 0, 0, 0))


def word_of(renaming):
    """A word that says the renaming, with as few letters as can be."""
    frame = given_renaming(renaming, "renaming").frame
    pictures = [led_by(frame, root) for root in ROOTS]
    word = []
    at = first_negative(pictures)
    while at is not None:
        # With this letter done ahead of it the renaming has one letter less.
        word.append(LETTERS[at])
        pictures = [mixed((1, times_crossed(root, ROOTS[at])), (picture, pictures[at]))
                    for root, picture in zip(ROOTS, pictures)]
        at = first_negative(pictures)
    return tuple(word)


def first_negative(rows):
    """The place of the first row that is the negative of a root; None if there is none."""
    for at, row in enumerate(rows):
        # A root has its first integer that is not 0 above 0, but below 0 at degree 0.
        lead = leading_place(row)
        if (row[lead] < 0) == (lead == 0):
            return at
    return None


def said_by(word):
    """The renaming that a word says."""
    if not is_list(word, 0, None) or not all([is_letter(letter) for letter in word]):
        raise BadText("word")
    pictures = {}
    for letter in word:
        if letter not in pictures:
            root = ROOTS[LETTERS.index(letter)]
            pictures[letter] = [turned(root, number) for number in range(MANY_NAMES)]
    six = list(range(MANY_IN_SIX))
    for letter in word:
        six = [pictures[letter][number] for number in six]
    return Renaming(names_of(six))


def is_letter(value):
    """Whether any value is a letter."""
    return isinstance(value, str) and value in LETTERS

"""Names and pins: which names stand, and on which the others fall."""

from sixpins.classes import times_crossed
from sixpins.given import given_name
from sixpins.integers import mixed
from sixpins.pins import given_pins
from sixpins.roster import CLASSES, MANY_NAMES, NAMES, names_of, number_of_class


def is_standing(pins, name):
    """Whether the name stands for the pins."""
    bars = given_pins(pins, "pins").bars
    return stands(bars, given_name(name, "name"))


def standing_names(pins):
    """The ascending tuple of the names that stand for the pins."""
    return names_of(standing_numbers(given_pins(pins, "pins").bars))


def falls_on(pins, name):
    """The name on which the name falls."""
    bars = given_pins(pins, "pins").bars
    return NAMES[fallen(bars, given_name(name, "name"))]


def weights_of(pins):
    """For each standing name, in their order, the pair of it and all names that fall on it."""
    bars = given_pins(pins, "pins").bars
    onto = all_fallen(bars)
    return tuple([(NAMES[number], names_of(those_on(onto, number))) for number in standing_numbers(bars)])


def stands(bars, number):
    """Whether the name of this number stands for pins with these bars."""
    return bar_below(bars, CLASSES[number]) is None


def standing_numbers(bars):
    """The ascending list of the numbers of the standing names."""
    return [number for number in range(MANY_NAMES) if stands(bars, number)]


def bar_below(bars, row):
    """The first bar that a curve class meets less than 0 times; None if there is none."""
    for bar in bars:
        if times_crossed(row, bar) < 0:
            return bar
    return None


def fallen(bars, number):
    """The number of the name on which the name of this number falls."""
    row = CLASSES[number]
    bar = bar_below(bars, row)
    while bar is not None:
        row = mixed((1, -1), (row, bar))
        bar = bar_below(bars, row)
    return number_of_class(row)


def all_fallen(bars):
    """The list of the numbers on which the 27 names fall, one by one."""
    if not bars:
        return list(range(MANY_NAMES))
    return [fallen(bars, number) for number in range(MANY_NAMES)]


def those_on(onto, number):
    """The ascending list of the numbers that fall on this one, if each falls as is told."""
    return [one for one, its in enumerate(onto) if its == number]

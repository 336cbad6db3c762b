"""What a value is: each function takes any value and says True or False."""

from math import gcd

from sixpins.integers import leading_place, plain


def is_integer(value):
    """Whether the value is an integer; True and False are none."""
    return isinstance(value, int) and not isinstance(value, bool)


def is_within(value, least, most):
    """Whether the value is an integer from least to most; None is no bound."""
    if not is_integer(value):
        return False
    return (least is None or value >= least) and (most is None or value <= most)


def is_list(value, least, most):
    """Whether the value is a list or tuple of least to most values; None is no bound."""
    return isinstance(value, (list, tuple)) and len(value) >= least and (most is None or len(value) <= most)


def is_integers(value, many):
    """Whether the value is a list or tuple of just so many integers; all may be 0."""
    if not isinstance(value, (list, tuple)) or len(value) != many:
        return False
    return all([type(number) is int or is_integer(number) for number in value])


def is_number(value):
    """Whether the value is a number: an integer, or a pair in lowest terms."""
    if is_integer(value):
        return True
    if not is_integers(value, 2):
        return False
    return value[1] >= 1 and gcd(value[0], value[1]) == 1


def is_row(value, many):
    """Whether the value is a list or tuple of just so many integers, not all 0."""
    return is_integers(value, many) and leading_place(value) is not None


def is_plain(value, many):
    """Whether the value is a plain row of just so many integers."""
    return is_row(value, many) and plain(value) == tuple(value)


def is_rows(value, least, most, many):
    """Whether the value is a list of least to most rows of so many integers, none all 0."""
    return is_list(value, least, most) and all([is_row(row, many) for row in value])


def is_integer_rows(value, least, most, many):
    """Whether the value is a list of least to most rows of so many integers; any may be all 0."""
    return is_list(value, least, most) and all([is_integers(row, many) for row in value])


def is_table(value):
    """Whether the value is a table: two, three or four rows, each with as many integers as there are rows."""
    return is_list(value, 2, 4) and all([is_integers(row, len(value)) for row in value])

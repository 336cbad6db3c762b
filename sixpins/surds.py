"""Numbers with square roots, compared exactly, without any checks.

Each is told as (whole, times, under, part): whole and times the root of under,
together divided by part, which is above 0.
"""


def sign(number):
    """-1, 0 or 1, as the number is below 0, 0 or above."""
    return (number > 0) - (number < 0)


def signed_square(number):
    """The square of a number, below 0 if the number is."""
    return number * abs(number)


def sign_of_sum(whole, one, first, other, second):
    """The sign of whole and one times the root of first and other times the root of second."""
    # The sign of a sum of two is that of the sum of their signed squares.
    both = sign(signed_square(one) * first + signed_square(other) * second)
    alone = signed_square(whole) + both * (one * one * first + other * other * second)
    return sign(signed_square(alone) + signed_square(2 * both * one * other) * first * second)


def order_of(one, other):
    """-1, 0 or 1, as the number one is less than the number other, equal to it or greater."""
    return sign_of_sum(one[0] * other[3] - other[0] * one[3],
                       one[1] * other[3], one[2], -other[1] * one[3], other[2])

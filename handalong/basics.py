"""The plainest questions about any value, and about integers."""

from math import gcd


def is_integer(value):
    """Whether any value is an integer; True and False are none."""
    return isinstance(value, int) and not isinstance(value, bool)


def is_number(value):
    """Whether any value is an integer from 0 on."""
    return is_integer(value) and value >= 0


def is_below(value, limit):
    """Whether any value is a number below the limit."""
    return is_number(value) and value < limit


def is_sequence(value):
    """Whether any value is a list or a tuple; a string is none."""
    return isinstance(value, (list, tuple))


def is_tuple_of(value, length):
    """Whether any value is a tuple of so many things."""
    return isinstance(value, tuple) and len(value) == length


def common_divisor(numbers):
    """The greatest common divisor of a list of integers, 0 if all are 0."""
    common = 0
    for number in numbers:
        common = gcd(common, number)
    return common


def product_sum(row, other):
    """The sum of the products of the numbers of two rows of one length."""
    return sum([one * two for one, two in zip(row, other)])

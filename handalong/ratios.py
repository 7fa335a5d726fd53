"""Fractions: pairs (numerator, denominator) in lowest terms."""

from math import gcd

from handalong.basics import is_integer, is_tuple_of
from handalong.errors import InvalidQuestion


def is_fraction(value):
    """Whether any value is a fraction."""
    if not is_tuple_of(value, 2):
        return False
    top, bottom = value
    if not is_integer(top) or not is_integer(bottom):
        return False
    return bottom >= 1 and gcd(top, bottom) == 1


def made(top, bottom):
    """The fraction top / bottom of two integers."""
    if bottom == 0:
        raise InvalidQuestion(1)
    common = gcd(top, bottom)
    if bottom < 0:
        common = -common
    return (top // common, bottom // common)


def added(one, other):
    """The sum of two fractions."""
    return made(one[0] * other[1] + other[0] * one[1], one[1] * other[1])


def less(one, other):
    """The first fraction less the second one."""
    return made(one[0] * other[1] - other[0] * one[1], one[1] * other[1])


def times(one, other):
    """The product of two fractions."""
    return made(one[0] * other[0], one[1] * other[1])


def compared(one, other):
    """-1, 0 or 1 as the first fraction is less than the second, equal or greater."""
    left = one[0] * other[1]
    right = other[0] * one[1]
    if left < right:
        return -1
    return 1 if left > right else 0

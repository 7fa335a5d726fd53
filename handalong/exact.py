"""Linear equations, told by rows of integers, solved exactly.

A basis is a list of pairs (place, row), ascending: at the place stands the first number of the
row that is not 0; it is above 0, and all other rows of the basis have 0 there.
"""

from handalong.basics import common_divisor
from handalong.ratios import made


def first_place(row):
    """The place of the first number that is not 0, or None."""
    for place, number in enumerate(row):
        if number != 0:
            return place
    return None


def lowered_row(row):
    """The row, not all 0, without a common divisor, its first number that is not 0 above 0."""
    common = common_divisor(row)
    if row[first_place(row)] < 0:
        common = -common
    return tuple([number // common for number in row])


def cleared(row, other, place):
    """The row less so much of another row, which has a number above 0 at a place, that 0 stands there."""
    return [other[place] * one - row[place] * two for one, two in zip(row, other)]


def widened(basis, row):
    """The basis of all that a basis and one more row span."""
    rest = row
    for place, known in basis:
        rest = cleared(rest, known, place)
    lead = first_place(rest)
    if lead is None:
        return basis
    rest = lowered_row(rest)
    old = [(place, lowered_row(cleared(known, rest, lead))) for place, known in basis]
    return sorted([*old, (lead, rest)])


def reduced_basis(rows):
    """The basis of all that rows span."""
    basis = []
    for row in rows:
        basis = widened(basis, row)
    return basis


def solution(rows, many):
    """Fractions for so many unknowns, or None if there are none that fit.

    Each row has a number for each unknown, and behind these what they have to make.
    """
    found = [(0, 1) for _ in range(many)]
    for place, row in reduced_basis(rows):
        if place == many:
            return None
        found[place] = made(row[many], row[place])
    return tuple(found)


def null_rows(rows, many):
    """A basis, in integers, of all rows of so many numbers whose product sum with each given one is 0."""
    basis = reduced_basis(rows)
    leads = [place for place, _ in basis]
    return [null_row(basis, free, many) for free in range(many) if free not in leads]


def null_row(basis, free, many):
    """The row with 0 product sums that has 0 wherever no row of the basis leads, but for one place."""
    scale = 1
    for place, row in basis:
        scale *= row[place]
    found = [0] * many
    found[free] = scale
    for place, row in basis:
        found[place] = -row[free] * scale // row[place]
    return lowered_row(found)

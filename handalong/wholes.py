"""Sums of integer multiples of rows of integers.

A step is a pair (row, multiples): the row is the sum of so many times each given row. Each row
of a list of steps begins with more zeros than the one before; where it first has another number,
it leads.
"""

from handalong.exact import first_place
from handalong.ratios import less, made, times


def staircase(rows):
    """The pair (steps, rest) for at least one row.

    All integer multiples of the rows of the steps are all those of the given rows; the rest are
    multiples of the given rows that make 0, such that all others are made by integer multiples
    of these.
    """
    pairs = [(tuple(row), unit(at, len(rows))) for at, row in enumerate(rows)]
    steps = []
    for place in range(len(rows[0])):
        lead, pairs = led(pairs, place)
        if lead is not None:
            steps.append(lead)
    return (steps, [multiples for _, multiples in pairs])


def unit(place, many):
    """A row of so many zeros, but 1 at a place."""
    return tuple([int(at == place) for at in range(many)])


def led(pairs, place):
    """A pair whose row leads at a place, or None, and others that have 0 there."""
    while True:
        standing = [(abs(row[place]), at) for at, (row, _) in enumerate(pairs) if row[place] != 0]
        if not standing:
            return (None, pairs)
        at = min(standing)[1]
        lead = pairs[at]
        others = pairs[:at] + pairs[at + 1:]
        if len(standing) == 1:
            return (lead, others)
        pairs = [lead] + [nearer(pair, lead, place) for pair in others]


def nearer(pair, lead, place):
    """The pair less so many times another one that the number at a place comes as near to 0 as it can."""
    often = nearest(pair[0][place], lead[0][place])
    return (lessened(pair[0], lead[0], often), lessened(pair[1], lead[1], often))


def nearest(top, bottom):
    """The integer that is nearest to top / bottom."""
    return (2 * top + bottom) // (2 * bottom)


def lessened(row, other, often):
    """The row less so many times another one."""
    return tuple([one - often * two for one, two in zip(row, other)])


def met(steps, targets, start):
    """Fractions whose product sums with the rows of the steps are the targets, fractions, too.

    Where no row leads they are those of `start`.
    """
    found = list(start)
    for at in reversed(range(len(steps))):
        row = steps[at][0]
        lead = first_place(row)
        rest = targets[at]
        for place in range(lead + 1, len(row)):
            rest = less(rest, times((row[place], 1), found[place]))
        found[lead] = times(rest, made(1, row[lead]))
    return tuple(found)

"""Amounts from 0 on that add up to a goal at the least cost, and the prices that prove it.

This is the simplex method in integers. Each row of the table stands for itself divided by one
common number above 0. Its first entry is how much there is, the others tell how it comes from
the goal. The last two rows are costs, both kept with the sign changed: how far the goal is
missed, and what is asked for; the former counts more than any multiple of the latter.
"""

from handalong.basics import common_divisor, product_sum
from handalong.ratios import made


def least_cost(columns, costs, goal):
    """The pair (amounts, prices).

    Columns and goal are tuples of integers of one length, the goal without one below 0; each
    column costs an integer, and the costs must be bounded below. `amounts` tells how much there
    is of some columns (by index, all times one number above 0) so that they make a multiple
    of the goal; `prices` are fractions for the entries, by which no column is worth more than it
    costs, and those in use just that. If nothing makes the goal, `amounts` is None, and by the
    prices no column is worth more than 0, the goal itself more than 0.
    """
    wide = [(0, *column) for column in columns]
    table = first_table(goal)
    basis = [None for _ in goal]
    common = 1
    while True:
        best = entering(table, common, wide, costs)
        if best is None:
            return outcome(table, common, wide, costs, basis)
        entry = [product_sum(row, wide[best]) for row in table]
        entry[-1] += costs[best] * common
        leaving = leaving_row(table, entry)
        table = turned(table, common, entry, leaving)
        common = entry[leaving]
        basis[leaving] = best


def first_table(goal):
    """The table in which nothing is used yet, so that the whole goal is missed."""
    size = len(goal)
    rows = [[goal[at]] + [int(other == at) for other in range(size)] for at in range(size)]
    return [*rows, [-sum(goal)] + [-1] * size, [0] * (size + 1)]


def reduced(table, common, column, cost):
    """What one more of a column adds to both costs."""
    return (product_sum(table[-2], column), product_sum(table[-1], column) + cost * common)


def entering(table, common, columns, costs):
    """The index of the column that lowers the costs most, or None."""
    best = None
    least = (0, 0)
    for at, column in enumerate(columns):
        change = reduced(table, common, column, costs[at])
        if change < least:
            best = at
            least = change
    return best


def leaving_row(table, entry):
    """The row that is used up first; the whole rows are compared, so that no table comes again."""
    best = None
    for at in range(len(table) - 2):
        if entry[at] > 0 and (best is None or is_sooner(table, entry, at, best)):
            best = at
    return best


def is_sooner(table, entry, one, other):
    """Whether one row, divided by its entry, is less than another one."""
    return [entry[other] * number for number in table[one]] < [entry[one] * number for number in table[other]]


def turned(table, common, entry, leaving):
    """The table behind a step; all divisions leave nothing."""
    lead = table[leaving]
    pivot = entry[leaving]
    rows = []
    for at, row in enumerate(table):
        if at == leaving:
            rows.append(row)
        else:
            rows.append([(pivot * old - entry[at] * new) // common for old, new in zip(row, lead)])
    return rows


def outcome(table, common, columns, costs, basis):
    """What `least_cost` tells of the last table."""
    missed, asked = table[-2], table[-1]
    if missed[0] != 0:
        return (None, tuple([made(-number, common) for number in missed[1:]]))
    weight = missing_weight(table, common, columns, costs)
    prices = tuple([made(-weight * one - other, common) for one, other in zip(missed[1:], asked[1:])])
    used = {column: table[at][0] for at, column in enumerate(basis) if column is not None and table[at][0] > 0}
    return (lowered_amounts(used), prices)


def missing_weight(table, common, columns, costs):
    """How often the first cost must be counted so that no column lowers both together."""
    weight = 0
    for at, column in enumerate(columns):
        first, second = reduced(table, common, column, costs[at])
        if first > 0 and second < 0:
            weight = max(weight, -(second // first))
    return weight


def lowered_amounts(amounts):
    """The amounts divided by their greatest common divisor."""
    divisor = common_divisor(list(amounts.values()))
    return {at: number // divisor for at, number in amounts.items()}

"""Corners of what two costs can be at once.

Amounts of columns make a goal, and the last number of each column tells how many sites it is; the
goal has one site, so the costs of what makes it are means. A *point* is a pair of such means.
"""

from handalong.basics import common_divisor
from handalong.ratios import added, compared, less, made, times
from handalong.simplex import least_cost
from handalong.transfers import MODE_PAIRS, crossings


def site_columns(policy, sides):
    """For each allowed view a column: what it sends, its number on each side, and that it is one site."""
    told = [tuple([side[at] for side in sides]) for at in range(len(policy.views))]
    return [crossings(policy.modes, view) + row + (1,) for view, row in zip(policy.views, told)]


def site_goal(policy, sides):
    """The goal of such columns: balanced, 0 on each side, one site."""
    return (0,) * (len(MODE_PAIRS[policy.modes]) + len(sides)) + (1,)


def mixed(first, second, u, v):
    """The score u * first + v * second."""
    return tuple([u * one + v * two for one, two in zip(first, second)])


def weighed_point(point, u, v):
    """u times the first mean of a point and v times the second one."""
    return added(times((u, 1), point[0]), times((v, 1), point[1]))


def whole_pair(one, other):
    """The pair of integers without a common divisor that is a positive multiple of two fractions."""
    pair = (one[0] * other[1], other[0] * one[1])
    common = common_divisor(pair)
    return (pair[0] // common, pair[1] // common)


def facing(point, other):
    """The pair (u, v) that weighs two points alike, and more what is left of the way to the second one."""
    return whole_pair(less(point[1], other[1]), less(other[0], point[0]))


def lowest_point(columns, goal, firsts, seconds, u, v):
    """Some point for which u times the first mean and v times the second one are least together."""
    amounts, _ = least_cost(columns, mixed(firsts, seconds, u, v), goal)
    many = sum([columns[at][-1] * number for at, number in amounts.items()])
    one = sum([firsts[at] * number for at, number in amounts.items()])
    other = sum([seconds[at] * number for at, number in amounts.items()])
    return (made(one, many), made(other, many))


def falling_corners(columns, goal, firsts, seconds):
    """The corners at which no other point has both means as low, from the least first mean on.

    Something must make the goal, and both costs must be bounded below.
    """
    ends = [lowest_point(columns, goal, firsts, seconds, 1, 0), lowest_point(columns, goal, firsts, seconds, 0, 1)]
    chain = falling(ends)
    at = 0
    while at + 1 < len(chain):
        u, v = facing(chain[at], chain[at + 1])
        point = lowest_point(columns, goal, firsts, seconds, u, v)
        if compared(weighed_point(point, u, v), weighed_point(chain[at], u, v)) < 0:
            chain = falling(chain[:at + 1] + [point] + chain[at + 1:])
            # The point before may have been within an edge, and is gone then.
            at = max(0, at - 1)
        else:
            at += 1
    return tuple(chain)


def falling(points):
    """Of points with ascending first means the corners of a falling chain that is steep first, then flat."""
    kept = []
    for point in points:
        if not kept or compared(point[1], kept[-1][1]) < 0:
            while kept and is_passed(kept, point):
                kept.pop()
            kept.append(point)
    return kept


def is_passed(kept, point):
    """Whether the last one of the points kept is no corner in view of a further point with a lower second mean."""
    if point[0] == kept[-1][0]:
        return True
    if len(kept) == 1:
        return False
    u, v = facing(kept[-2], point)
    return compared(weighed_point(kept[-1], u, v), weighed_point(point, u, v)) >= 0

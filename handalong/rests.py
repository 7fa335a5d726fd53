"""How bad networks at rest can be beside the best ones, and two standings beside each other."""

from handalong.common import joint, view_parts
from handalong.gains import gain, rest_policy
from handalong.means import greatest_mean, least_mean
from handalong.policies import Policy, checked_scores
from handalong.ratios import made
from handalong.shares import worst_ratio
from handalong.views import all_views


def worst_rest(table, degree):
    """The ratio of the least mean gain at rest and the greatest one at all, with what is told of both means."""
    resting = rest_policy(table, (degree,))
    low = least_mean(resting, [gain(table, view) for view in resting.views])
    every = Policy(len(table), all_views(len(table), degree))
    high = greatest_mean(every, [gain(table, view) for view in every.views])
    if low[0] == "none":
        return (None, low, high)
    if high[1][0] == 0:
        return ((1, 1), low, high)
    return (made(low[1][0] * high[1][1], low[1][1] * high[1][0]), low, high)


def joint_ratio(one, first, other, second):
    """The worst ratio of the scores of the two standings that each network of the joint policy is."""
    worth = checked_scores(one, first)
    both = joint(one, other)
    beside = checked_scores(other, second)
    parts = [view_parts(view, other.modes) for view in both.views]
    firsts = [worth[one.spot(part)] for part, _ in parts]
    return worst_ratio(both, firsts, [beside[other.spot(part)] for _, part in parts])

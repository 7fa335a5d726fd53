"""Balanced amounts of views at the least cost."""

from handalong.simplex import least_cost
from handalong.transfers import MODE_PAIRS, crossings


def least_balanced(modes, views, costs, weights):
    """The pair (amounts, prices) of the least cost of balanced views, their weights making 1.

    As `least_cost` tells them: the prices are a transfer and, behind it, what the weight 1 costs;
    so a view's cost is at least what it sends and the price of its weight together. If no balanced
    views have a weight, `amounts` is None, these together are at most 0, and the price is above 0.
    """
    columns = [crossings(modes, view) + (weight,) for view, weight in zip(views, weights)]
    goal = (0,) * len(MODE_PAIRS[modes]) + (1,)
    return least_cost(columns, costs, goal)


def collection_of(policy, amounts):
    """The collection of as many sites with each allowed view as the amounts tell by its index."""
    return tuple([(policy.views[at], amounts[at]) for at in sorted(amounts)])

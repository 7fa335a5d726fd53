"""Balanced amounts of views at the least cost."""

from handalong.ratios import made
from handalong.simplex import least_cost
from handalong.transfers import MODE_PAIRS, crossings, scaled


def least_balanced(modes, views, costs, weights):
    """The pair (amounts, prices) of the least cost of balanced views, their weights making 1.

    As `least_cost` tells them: the prices are a transfer and, behind it, what the weight 1 costs;
    so a view's cost is at least what it sends and the price of its weight together. If no balanced
    views have a weight, `amounts` is None, these together are at most 0, and the price is above 0.
    """
    columns = [crossings(modes, view) + (weight,) for view, weight in zip(views, weights)]
    goal = (0,) * len(MODE_PAIRS[modes]) + (1,)
    return least_cost(columns, costs, goal)


def collection_of(policy, amounts):
    """The collection of as many sites with each allowed view as the amounts tell by its index."""
    return tuple([(policy.views[at], amounts[at]) for at in sorted(amounts)])


def parted(policy, edge):
    """Of the views with these indexes those that balanced collections of them have.

    The pair of how often each of these stands in some such collection, a dict by indexes, and a
    transfer by which these send 0 and the other views of the edge at most -1.
    """
    columns = [crossings(policy.modes, policy.views[at]) for at in edge]
    counts, prices = parted_columns(columns, len(MODE_PAIRS[policy.modes]))
    return ({edge[place]: number for place, number in counts.items()}, prices)


def parted_columns(columns, size):
    """Of columns of so many integers those that cancel, together with others, if taken often enough.

    The pair of how often each of these is taken so that all cancel, a dict by indexes, and prices
    for the entries by which these are worth 0 and the other columns at most -1.
    """
    wide = [(*column, 1) for column in columns]
    goal = (0,) * size + (1,)
    counts = {}
    while True:
        costs = [0 if at in counts else -1 for at in range(len(columns))]
        amounts, prices = least_cost(wide, costs, goal)
        if amounts is None:
            # No column is worth more than what taking it costs, with the sign changed.
            return (counts, scaled(prices[:-1], made(prices[-1][1], prices[-1][0])))
        known = len(counts)
        for at, number in amounts.items():
            counts[at] = counts.get(at, 0) + number
        if len(counts) == known:
            return (counts, prices[:-1])

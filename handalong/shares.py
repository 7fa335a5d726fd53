"""Worst ratios, side conditions on a second mean, and shares of loose sites."""

from handalong.balancing import collection_of, least_balanced
from handalong.between import all_beyond
from handalong.collected import collection_total
from handalong.errors import InvalidQuestion
from handalong.hulls import falling_corners, mixed, site_columns, site_goal
from handalong.margins import costs_above
from handalong.means import has_mean, known_least, least_mean
from handalong.policies import Policy, checked_scores
from handalong.peeling import is_least
from handalong.polygons import checked_pair
from handalong.proofs import all_left, is_balanced, is_told
from handalong.ratios import added, compared, is_fraction, less, made, times
from handalong.simplex import least_cost
from handalong.tight import tight_views
from handalong.transfers import is_transfer, scaled, sends


def checked_ratio(policy, first, second):
    """Any two values as scores of a policy that some network obeys, the second ones from 0 on."""
    one = checked_scores(policy, first)
    two = checked_scores(policy, second)
    if min(two, default=0) < 0:
        raise InvalidQuestion(2)
    known_least(policy, one)
    return (one, two)


def worst_ratio(policy, first, second):
    """The greatest c such that the first sum is at least c times the second one in every network."""
    one, two = checked_ratio(policy, first, second)
    flat = [at for at, score in enumerate(two) if score == 0]
    answer = least_mean(Policy(policy.modes, [policy.views[at] for at in flat]), [one[at] for at in flat])
    if answer[0] == "mean" and answer[1][0] < 0:
        return ("none", answer[2])
    amounts, prices = least_balanced(policy.modes, policy.views, one, two)
    transfer = prices[:-1]
    if amounts is None:
        # The price of what the second score sums to is above 0, but nothing sums to it.
        return ("every", scaled(transfer, made(prices[-1][1], prices[-1][0])), known_least(policy, one)[2])
    return ("ratio", prices[-1], collection_of(policy, amounts), transfer)


def ratio_holds(policy, first, second, paper):
    """Whether any value is an answer of `worst_ratio` that fits."""
    one, two = checked_ratio(policy, first, second)
    if is_told(paper, "none", 2):
        return has_mean(policy, two, paper[1], (0, 1)) and collection_total(policy, one, paper[1]) < 0
    if is_told(paper, "every", 3):
        below = [-score for score in two]
        return all_left(policy, below, paper[1], (0, 1)) and all_left(policy, one, paper[2], (0, 1))
    if not is_told(paper, "ratio", 4) or not is_fraction(paper[1]) or not is_balanced(policy, paper[2]):
        return False
    _, (top, bottom), collection, transfer = paper
    rest = mixed(one, two, bottom, -top)
    if collection_total(policy, two, collection) <= 0 or collection_total(policy, rest, collection) != 0:
        return False
    return all_left_of(policy, [made(score, bottom) for score in rest], transfer, (0, 1))


def all_left_of(policy, amounts, value, least):
    """Whether any value is a transfer that leaves each allowed view at least so much of its amount, a fraction."""
    if not is_transfer(policy.modes, value):
        return False
    lefts_told = [less(amount, sends(value, view)) for amount, view in zip(amounts, policy.views)]
    return all([compared(left, least) >= 0 for left in lefts_told])


def limited(policy, first, second, *, limit=(0, 1)):
    """The least mean of the first score among the networks whose mean of the second one is within a limit."""
    one, two = checked_pair(policy, first, second)
    sides = (costs_above(two, limit),)
    columns = site_columns(policy, sides)
    goal = site_goal(policy, sides)
    # What is missing up to the limit costs nothing, and is no site.
    unused = (0,) * (len(goal) - 2) + (1, 0)
    amounts, prices = least_cost([*columns, unused], one + (0,), goal)
    if amounts is None:
        return ("none", known_least(policy, two)[2])
    price = times(prices[-2], (-limit[1], 1))
    used = {at: number for at, number in amounts.items() if at < len(columns)}
    return ("least", prices[-1], price, collection_of(policy, used), prices[:-2])


def limited_holds(policy, first, second, paper, *, limit=(0, 1)):
    """Whether any value is an answer of `limited` that fits."""
    one, two = checked_pair(policy, first, second)
    if is_told(paper, "none", 2):
        return all_beyond(policy, two, paper[1], limit, 1)
    if not is_told(paper, "least", 5):
        return False
    _, fraction, price, collection, transfer = paper
    if not is_fraction(fraction) or not is_fraction(price) or price[0] < 0:
        return False
    if not has_mean(policy, one, collection, fraction):
        return False
    over = costs_above(two, limit)
    if collection_total(policy, over, collection) > 0:
        return False
    extra = [times(price, made(number, limit[1])) for number in over]
    amounts = [added((score, 1), more) for score, more in zip(one, extra)]
    return all_left_of(policy, amounts, transfer, fraction)


def curve(policy, first, second):
    """The pairs (limit, c) at the ends of the pieces in which the answer of `limited` falls."""
    one, two = checked_pair(policy, first, second)
    return falling_corners(site_columns(policy, ()), site_goal(policy, ()), two, one)


def at_price(policy, first, second, *, price=(1, 1)):
    """The least mean of the first score and so many times the second one, and where on the curve it is met."""
    one = checked_scores(policy, first)
    two = checked_scores(policy, second)
    if price[0] < 0:
        raise InvalidQuestion(3)
    pairs = curve(policy, one, two)
    values = [added(c, times(price, limit)) for limit, c in pairs]
    met = [at for at, value in enumerate(values) if is_least(value, values)]
    return (values[met[0]], pairs[met[0]], pairs[met[-1]])


def loose(policy, scores):
    """The pairs (e, share) at the ends of the pieces in which the greatest share of loose sites rises."""
    worth = checked_scores(policy, scores)
    tight = tight_views(policy, worth)[0]
    marks = [0 if at in tight else -1 for at in range(len(worth))]
    pairs = curve(policy, marks, worth)
    # The first piece begins at the least mean, where no site is loose.
    least = pairs[0][0]
    return tuple([(less(mean_told, least), times((-1, 1), share)) for mean_told, share in pairs])

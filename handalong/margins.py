"""Margins: what each site with a view costs, and how much best transfers send."""

from handalong.balancing import collection_of, least_balanced
from handalong.basics import is_below
from handalong.collected import collection_total, half_links, sites
from handalong.errors import InvalidQuestion
from handalong.means import known_least
from handalong.policies import checked_scores
from handalong.proofs import all_left, all_send, is_allowed, is_balanced, is_told
from handalong.ratios import added, compared, is_fraction, made, times
from handalong.simplex import least_cost
from handalong.transfers import MODE_PAIRS, crossings, is_transfer, scaled, sends, sent


def least_for(policy, worth, at):
    """The least mean for a question about the view with an index, any value."""
    fraction = known_least(policy, worth)[0]
    if not is_below(at, len(policy.views)):
        raise InvalidQuestion(2)
    return fraction


def costs_above(worth, fraction):
    """The scores less a fraction, all times its denominator."""
    return [score * fraction[1] - fraction[0] for score in worth]


def toll(policy, scores, at):
    """How much each site with a view adds at least to the least sum."""
    worth = checked_scores(policy, scores)
    fraction = least_for(policy, worth, at)
    weights = [int(spot == at) for spot in range(len(worth))]
    amounts, prices = least_balanced(policy.modes, policy.views, costs_above(worth, fraction), weights)
    transfer = prices[:-1]
    top, bottom = prices[-1]
    if amounts is None:
        return ("dead", scaled(transfer, made(-bottom, top)))
    share = made(1, fraction[1])
    return ("toll", times((top, bottom), share), collection_of(policy, amounts), scaled(transfer, share))


def is_toll_evidence(policy, scores, at, value):
    """Whether any value is a right answer of `toll`."""
    worth = checked_scores(policy, scores)
    fraction = least_for(policy, worth, at)
    view = policy.views[at]
    if is_told(value, "dead", 2):
        return all_send(policy, value[1], (0, 1)) and compared(sends(value[1], view), (1, 1)) >= 0
    if not is_told(value, "toll", 4):
        return False
    _, extra, collection, transfer = value
    if not is_fraction(extra) or not is_balanced(policy, collection):
        return False
    count = sum([number for other, number in collection if other == view])
    if count == 0 or not costs_just(policy, worth, collection, fraction, times(extra, (count, 1))):
        return False
    return all_left(policy, worth, transfer, fraction) and is_left(worth[at], transfer, view, added(fraction, extra))


def is_left(score, transfer, view, least):
    """Whether a view with a score is left at least so much."""
    return compared((score, 1), added(least, sends(transfer, view))) >= 0


def costs_just(policy, worth, collection, fraction, extra):
    """Whether the total of a collection is the fraction for each site, and the extra."""
    plain = times(fraction, (sites(collection), 1))
    return added(plain, extra) == (collection_total(policy, worth, collection), 1)


def most_sent(policy, scores, a, b):
    """The greatest amount that a best transfer sends from mode a to mode b."""
    worth = checked_scores(policy, scores)
    fraction = known_least(policy, worth)[0]
    pairs = MODE_PAIRS[policy.modes]
    # Turned round for a > b, so that what is looked for stands with the sign +.
    sign = 1 if a < b else -1
    place = pairs.index((min(a, b), max(a, b)))
    columns = [tuple([sign * often for often in crossings(policy.modes, view)]) for view in policy.views]
    goal = tuple([int(at == place) for at in range(len(pairs))])
    amounts, prices = least_cost(columns, costs_above(worth, fraction), goal)
    if amounts is None:
        return ("free", scaled(prices, made(sign * prices[place][1], prices[place][0])))
    transfer = scaled(prices, made(sign, fraction[1]))
    return ("most", sent(transfer, a, b), collection_of(policy, amounts), transfer)


def is_most_evidence(policy, scores, a, b, value):
    """Whether any value is a right answer of `most_sent`."""
    worth = checked_scores(policy, scores)
    fraction = known_least(policy, worth)[0]
    if is_told(value, "free", 2):
        return shows_free(policy, a, b, value[1])
    if not is_told(value, "most", 4):
        return False
    _, most, collection, transfer = value
    if not is_fraction(most) or not is_allowed(policy, collection) or not is_uneven(collection, a, b):
        return False
    more = half_links(collection, a, b) - half_links(collection, b, a)
    if not costs_just(policy, worth, collection, fraction, times(most, (more, 1))):
        return False
    return all_left(policy, worth, transfer, fraction) and sent(transfer, a, b) == most


def shows_free(policy, a, b, value):
    """Whether any value is a transfer that can be added to any best one, again and again."""
    if not is_transfer(policy.modes, value) or compared(sent(value, a, b), (1, 1)) < 0:
        return False
    return all([compared(sends(value, view), (0, 1)) <= 0 for view in policy.views])


def is_uneven(collection, a, b):
    """Whether a collection has more half-links (a, b) than (b, a), and is balanced for all other modes."""
    if half_links(collection, a, b) <= half_links(collection, b, a):
        return False
    pairs = [pair for pair in MODE_PAIRS[-1] if pair != (min(a, b), max(a, b))]
    return all([half_links(collection, one, other) == half_links(collection, other, one) for one, other in pairs])

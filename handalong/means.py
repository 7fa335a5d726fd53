"""Least and greatest means of all networks that obey a policy."""

from handalong.balancing import collection_of, least_balanced
from handalong.building import compact
from handalong.collected import collection_mean
from handalong.errors import NoNetwork
from handalong.policies import checked_scores
from handalong.proofs import all_send, is_balanced, is_told
from handalong.ratios import compared, is_fraction, made, times
from handalong.transfers import is_transfer, lefts, scaled


def least_mean(policy, scores):
    """The least mean, with a collection that has it and a transfer that proves it."""
    worth = checked_scores(policy, scores)
    amounts, prices = least_balanced(policy.modes, policy.views, worth, [1 for _ in worth])
    transfer = prices[:-1]
    top, bottom = prices[-1]
    if amounts is None:
        return ("none", scaled(transfer, made(-bottom, top)))
    return ("mean", (top, bottom), collection_of(policy, amounts), transfer)


def greatest_mean(policy, scores):
    """The greatest mean, with a collection that has it and a transfer that proves it."""
    worth = checked_scores(policy, scores)
    answer = least_mean(policy, [-score for score in worth])
    if answer[0] == "none":
        return answer
    _, fraction, collection, transfer = answer
    return ("mean", times((-1, 1), fraction), collection, scaled(transfer, (-1, 1)))


def known_least(policy, worth):
    """The least mean of checked scores, a collection and a transfer."""
    answer = least_mean(policy, worth)
    if answer[0] == "none":
        raise NoNetwork()
    return answer[1:]


def least_network(policy, scores):
    """Some obeying network with the least mean."""
    _, collection, _ = known_least(policy, checked_scores(policy, scores))
    return compact(collection)


def is_least_evidence(policy, scores, value):
    """Whether any value is a right answer of `least_mean`."""
    worth = checked_scores(policy, scores)
    return shows_none(policy, value) or shows_mean(policy, worth, value, 1)


def is_greatest_evidence(policy, scores, value):
    """Whether any value is a right answer of `greatest_mean`."""
    worth = checked_scores(policy, scores)
    return shows_none(policy, value) or shows_mean(policy, worth, value, -1)


def shows_none(policy, value):
    """Whether any value tells that no network obeys, and proves it."""
    return is_told(value, "none", 2) and all_send(policy, value[1], (1, 1))


def shows_mean(policy, worth, value, sign):
    """Whether any value tells the least mean (sign 1) or the greatest one (sign -1), and proves it."""
    if not is_told(value, "mean", 4):
        return False
    _, fraction, collection, transfer = value
    if not is_fraction(fraction) or not has_mean(policy, worth, collection, fraction):
        return False
    if not is_transfer(policy.modes, transfer):
        return False
    return all([compared(left, fraction) * sign >= 0 for left in lefts(policy, worth, transfer)])


def has_mean(policy, worth, value, fraction):
    """Whether any value is a balanced collection of allowed views with this mean."""
    return is_balanced(policy, value) and collection_mean(policy, worth, value) == fraction

"""Transfers that are best, or better ones; collections that have the least mean, or lower ones."""

from handalong.collected import collection_mean
from handalong.means import known_least
from handalong.policies import checked_scores
from handalong.ratios import compared
from handalong.transfers import lefts


def best_or_better(policy, scores, transfer):
    """A collection that proves a transfer to be best, or a transfer that leaves more."""
    worth = checked_scores(policy, scores)
    fraction, collection, best = known_least(policy, worth)
    if all([compared(left, fraction) >= 0 for left in lefts(policy, worth, transfer)]):
        # What the collection's views are left has the mean `fraction`, so it is just that for each.
        return ("best", collection)
    return ("better", best)


def least_or_lower(policy, scores, collection):
    """A transfer that proves a balanced collection to have the least mean, or one with a lesser mean."""
    worth = checked_scores(policy, scores)
    fraction, lower, transfer = known_least(policy, worth)
    if collection_mean(policy, worth, collection) == fraction:
        return ("least", transfer)
    return ("lower", lower)

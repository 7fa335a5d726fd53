"""The views that obeying networks of the least mean have."""

from handalong.balancing import collection_of, parted
from handalong.basics import is_integer, is_tuple_of
from handalong.building import lowest
from handalong.collected import collection_mean
from handalong.means import known_least
from handalong.policies import checked_scores
from handalong.proofs import is_balanced
from handalong.ratios import added, compared, less, made
from handalong.transfers import is_transfer, lefts, scaled, sends


def tight_views(policy, scores):
    """The indexes of all tight views, a collection of just these, and a transfer that proves it."""
    worth = checked_scores(policy, scores)
    fraction, _, transfer = known_least(policy, worth)
    slack = [less(left, fraction) for left in lefts(policy, worth, transfer)]
    edge = [at for at, much in enumerate(slack) if much == (0, 1)]
    counts, turn = parted(policy, edge)
    step = scaled(turn, safe_share(policy, slack, turn))
    lifted = tuple([added(one, other) for one, other in zip(transfer, step)])
    return (tuple(sorted(counts)), lowest(collection_of(policy, counts)), lifted)


def safe_share(policy, slack, turn):
    """A share of the turn that takes no view with slack all that it has."""
    share = (1, 1)
    for view, much in zip(policy.views, slack):
        sent_more = sends(turn, view)
        # The views of the edge, which have no slack, do not send more.
        if sent_more[0] > 0:
            limit = made(much[0] * sent_more[1], 2 * much[1] * sent_more[0])
            share = limit if compared(limit, share) < 0 else share
    return share


def is_tight_evidence(policy, scores, value):
    """Whether any value is a right answer of `tight_views`."""
    worth = checked_scores(policy, scores)
    known_least(policy, worth)
    if not is_tuple_of(value, 3):
        return False
    indexes, collection, transfer = value
    if not is_balanced(policy, collection) or not is_transfer(policy.modes, transfer):
        return False
    spots = tuple([policy.spot(view) for view, _ in collection])
    if not isinstance(indexes, tuple) or not all([is_integer(at) for at in indexes]) or indexes != spots:
        return False
    fraction = collection_mean(policy, worth, collection)
    signs = [compared(left, fraction) for left in lefts(policy, worth, transfer)]
    return signs == [0 if at in spots else 1 for at in range(len(policy.views))]

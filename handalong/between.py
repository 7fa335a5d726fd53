"""Collections with a mean between the least and the greatest one."""

from handalong.building import lowest
from handalong.collected import collection_total, copies, joined, sites
from handalong.means import greatest_mean, has_mean, known_least
from handalong.policies import checked_scores
from handalong.proofs import is_told
from handalong.ratios import compared
from handalong.transfers import is_transfer, lefts


def with_mean(policy, scores, ratio):
    """A balanced collection with a mean, or a transfer that proves that there is none."""
    worth = checked_scores(policy, scores)
    least, low, transfer = known_least(policy, worth)
    if compared(ratio, least) < 0:
        return ("less", transfer)
    _, greatest, high, other = greatest_mean(policy, worth)
    if compared(ratio, greatest) > 0:
        return ("more", other)
    return ("collection", mixed(policy, worth, low, high, ratio))


def mixed(policy, worth, low, high, ratio):
    """Copies of two collections together, so many that they have a mean between theirs."""
    missing = -surplus(policy, worth, low, ratio)
    more = surplus(policy, worth, high, ratio)
    if missing == 0:
        return low
    if more == 0:
        return high
    return lowest(joined(copies(low, more), copies(high, missing)))


def surplus(policy, worth, collection, ratio):
    """How much the total exceeds that of the mean, times the denominator."""
    return collection_total(policy, worth, collection) * ratio[1] - sites(collection) * ratio[0]


def is_with_evidence(policy, scores, ratio, value):
    """Whether any value is a right answer of `with_mean`."""
    worth = checked_scores(policy, scores)
    known_least(policy, worth)
    if is_told(value, "collection", 2):
        return has_mean(policy, worth, value[1], ratio)
    if is_told(value, "less", 2):
        return all_beyond(policy, worth, value[1], ratio, 1)
    return is_told(value, "more", 2) and all_beyond(policy, worth, value[1], ratio, -1)


def all_beyond(policy, worth, value, ratio, sign):
    """Whether any value is a transfer that leaves each view more (sign 1) or less (sign -1) than a fraction."""
    if not is_transfer(policy.modes, value):
        return False
    return all([compared(left, ratio) == sign for left in lefts(policy, worth, value)])

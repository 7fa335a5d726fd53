"""Bans: lots of views without which no obeying network has a mean below a limit, or none is left."""

from itertools import combinations

from handalong.collected import collection_mean
from handalong.elementary import all_elements, checked_lot, is_element, is_within, lot_of
from handalong.errors import NoNetwork
from handalong.live import without
from handalong.means import least_mean
from handalong.peeling import element_means
from handalong.policies import checked_scores
from handalong.proofs import all_left, is_told
from handalong.ratios import compared
from handalong.transfers import scaled


def is_low(policy, worth, limit, collection):
    """Whether a collection of allowed views has a mean below a limit."""
    return compared(collection_mean(policy, worth, collection), limit) < 0


def low_elements(policy, scores, limit):
    """The elements with a mean below a limit."""
    worth = checked_scores(policy, scores)
    return tuple([element for element in all_elements(policy) if is_low(policy, worth, limit, element)])


def meets(collection, views):
    """Whether a collection has one of the views."""
    return any([view in views for view, _ in collection])


def unmet(collections, views):
    """The collections that have none of the views."""
    return [collection for collection in collections if not meets(collection, views)]


def is_ban(policy, scores, limit, lot):
    """Whether no obeying network without the views of a lot has a mean below a limit."""
    worth = checked_scores(policy, scores)
    banned = checked_lot(policy, lot)
    return not unmet(low_elements(policy, worth, limit), banned)


def scores_without(policy, worth, banned):
    """The scores of the views that are not banned."""
    return [score for view, score in zip(policy.views, worth) if view not in banned]


def ban_evidence(policy, scores, limit, lot):
    """A transfer that proves a lot to be a ban, or the first low element that has no view in it."""
    worth = checked_scores(policy, scores)
    banned = checked_lot(policy, lot)
    free = unmet(low_elements(policy, worth, limit), banned)
    if free:
        return ("element", free[0])
    rest = scores_without(policy, worth, banned)
    answer = least_mean(without(policy, banned), rest)
    if answer[0] == "mean":
        return ("transfer", answer[3])
    # Every view that is left sends at least 1, so turned round it is left as much as is wanted.
    missing = max([-(-limit[0] // limit[1]) - score for score in rest], default=0)
    return ("transfer", scaled(answer[1], (-max(0, missing), 1)))


def is_ban_evidence(policy, scores, limit, lot, value):
    """Whether any value is a right answer of `ban_evidence`, with any such element."""
    worth = checked_scores(policy, scores)
    banned = checked_lot(policy, lot)
    if is_told(value, "transfer", 2):
        return all_left(without(policy, banned), scores_without(policy, worth, banned), value[1], limit)
    if not is_told(value, "element", 2) or not is_element(policy, value[1]):
        return False
    return is_low(policy, worth, limit, value[1]) and not meets(value[1], banned)


def lots_beyond(collections, kept):
    """The views of each collection that are not to be kept."""
    return [tuple([view for view in lot_of(collection) if view not in kept]) for collection in collections]


def least_bans(policy, scores, limit, *, keep=()):
    """All bans without views to be kept that have no other ban within them."""
    worth = checked_scores(policy, scores)
    kept = checked_lot(policy, keep)
    return least_meeting(lots_beyond(low_elements(policy, worth, limit), kept))


def ban_reasons(policy, scores, limit, lot):
    """For each view of a lot the first low element that has this view and no other one of it, or None."""
    worth = checked_scores(policy, scores)
    banned = checked_lot(policy, lot)
    low = low_elements(policy, worth, limit)
    return tuple([first_with(low, view, banned) for view in banned])


def first_with(collections, view, lot):
    """The first collection that has a view and no other one of a lot, or None."""
    others = [other for other in lot if other != view]
    fitting = [collection for collection in unmet(collections, others) if meets(collection, [view])]
    return fitting[0] if fitting else None


def cheapest_ban(policy, scores, limit, prices, *, keep=()):
    """The first of the least bans without views to be kept whose prices have the least sum, or None."""
    bans = least_bans(policy, scores, limit, keep=keep)
    priced = [(sum([prices[policy.spot(view)] for view in ban]), ban) for ban in bans]
    return min(priced)[1] if priced else None


def best_ban(policy, scores, many, *, keep=()):
    """The first, shortest lot of at most so many views without which the least mean is greatest, and this mean."""
    worth = checked_scores(policy, scores)
    kept = checked_lot(policy, keep)
    told = list(zip(all_elements(policy), element_means(policy, worth)))
    if not told:
        raise NoNetwork()
    free = [view for view in policy.views if view not in kept]
    best = None
    for size in range(min(many, len(free)) + 1):
        for lot in combinations(free, size):
            mean = least_of([each for element, each in told if not meets(element, lot)])
            if mean is not None and (best is None or compared(mean, best[1]) > 0):
                best = (lot, mean)
    return best


def least_of(fractions):
    """The least of some fractions, None if there is none."""
    least = None
    for fraction in fractions:
        if least is None or compared(fraction, least) < 0:
            least = fraction
    return least


def least_blocks(policy, *, keep=()):
    """All least lots, without views to be kept, without which no obeying network is left."""
    kept = checked_lot(policy, keep)
    return least_meeting(lots_beyond(all_elements(policy), kept))


def least_meeting(lots):
    """All least lots with a view of each of some lots."""
    found = [()]
    for lot in lots:
        found = meeting_also(found, lot)
    return tuple(sorted(found))


def meeting_also(found, lot):
    """Of least lots that meet some, those that meet one more lot, too."""
    meeting = [other for other in found if any([view in lot for view in other])]
    apart = [other for other in found if other not in meeting]
    wider = [tuple(sorted(other + (view,))) for other in apart for view in sorted({view: True for view in lot})]
    return meeting + [other for other in wider if not any([is_within(least, other) for least in meeting])]

"""Live views, which some obeying network has, and dead ones."""

from handalong.balancing import collection_of, parted
from handalong.basics import is_tuple_of
from handalong.building import lowest
from handalong.policies import Policy
from handalong.proofs import is_balanced
from handalong.ratios import compared
from handalong.transfers import is_transfer, scaled, sends


def live_evidence(policy):
    """A collection that has exactly the live views, and a transfer that proves that the others are dead."""
    counts, turn = parted(policy, list(range(len(policy.views))))
    return (lowest(collection_of(policy, counts)), scaled(turn, (-1, 1)))


def is_live_evidence(policy, value):
    """Whether any value is a right answer of `live_evidence`."""
    if not is_tuple_of(value, 2):
        return False
    collection, transfer = value
    if not is_tuple_of(collection, 0) and not is_balanced(policy, collection):
        return False
    if not is_transfer(policy.modes, transfer):
        return False
    told = [view for view, _ in collection]
    return all([shows_live(sends(transfer, view), view in told) for view in policy.views])


def shows_live(amount, is_live):
    """Whether a view that sends so much is shown to be live, or to be dead."""
    return amount == (0, 1) if is_live else compared(amount, (1, 1)) >= 0


def live_views(policy):
    """All views that some obeying network has."""
    return tuple([view for view, _ in live_evidence(policy)[0]])


def dead_views(policy):
    """All allowed views that no obeying network has."""
    live = live_views(policy)
    return tuple([view for view in policy.views if view not in live])


def modes_of(views):
    """The modes of views, ascending."""
    return tuple(sorted({view[0]: True for view in views}))


def live_modes(policy):
    """The modes of live views."""
    return modes_of(live_views(policy))


def tidy(policy):
    """The policy that allows the live views alone."""
    return Policy(policy.modes, live_views(policy))


def without(policy, views):
    """The policy that does not allow some views."""
    return Policy(policy.modes, [view for view in policy.views if view not in views])


def narrower(one, other):
    """Whether each network that obeys the first policy obeys the other one."""
    return all([other.spot(view) is not None for view in live_views(one)])


def alike(one, other):
    """Whether the same networks obey two policies."""
    return live_views(one) == live_views(other)

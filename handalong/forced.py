"""Views that never occur, views and modes that others force."""

from handalong.basics import is_sequence
from handalong.errors import InvalidView
from handalong.live import live_evidence, live_modes, live_views, modes_of, without
from handalong.proofs import is_balanced, is_told
from handalong.ratios import compared
from handalong.transfers import is_transfer, sends


def checked_allowed(policy, views):
    """Any value, a sequence of allowed views, as a tuple."""
    if not is_sequence(views):
        raise InvalidView(0)
    for at, view in enumerate(views):
        if policy.spot(view) is None:
            raise InvalidView(at)
    return tuple(views)


def has_any(collection, views):
    """Whether a collection has one of the views."""
    return any([view in views for view, _ in collection])


def never_evidence(policy, views):
    """A transfer that proves that no obeying network has any of the views, or a collection with one."""
    asked = checked_allowed(policy, views)
    collection, transfer = live_evidence(policy)
    if has_any(collection, asked):
        return ("network", collection)
    return ("never", transfer)


def is_never_evidence(policy, views, value):
    """Whether any value is a right answer of `never_evidence`."""
    asked = checked_allowed(policy, views)
    if is_told(value, "network", 2):
        return is_balanced(policy, value[1]) and has_any(value[1], asked)
    return is_told(value, "never", 2) and bars(policy, value[1], asked)


def bars(policy, value, views):
    """Whether any value is a transfer by which each allowed view sends at least 0, some at least 1."""
    if not is_transfer(policy.modes, value):
        return False
    return all([compared(sends(value, view), (int(view in views), 1)) >= 0 for view in policy.views])


def force_evidence(policy, having, some):
    """A view that forces one of some, with a transfer that proves it, or a collection without these."""
    needed = checked_allowed(policy, having)
    asked = checked_allowed(policy, some)
    collection, transfer = live_evidence(without(policy, asked))
    live = [view for view, _ in collection]
    lost = [view for view in needed if view not in live]
    if lost:
        return ("forced", lost[0], transfer)
    if not live:
        return ("forced", None, transfer)
    return ("network", collection)


def is_force_evidence(policy, having, some, value):
    """Whether any value is a right answer of `force_evidence`."""
    needed = checked_allowed(policy, having)
    rest = without(policy, checked_allowed(policy, some))
    if is_told(value, "network", 2):
        return is_balanced(rest, value[1]) and all([has_any(value[1], [view]) for view in needed])
    if not is_told(value, "forced", 3):
        return False
    _, view, transfer = value
    if not needed:
        return view is None and bars(rest, transfer, rest.views)
    # Any value: a list, say, may equal no view, but something odd may say that it equals all.
    return policy.spot(view) is not None and view in needed and bars(rest, transfer, [view])


def modes_without(policy, mode):
    """The modes that obeying networks without a site in a mode have."""
    return live_modes(without(policy, [view for view in policy.views if view[0] == mode]))


def needed_modes(policy):
    """The modes that every obeying network has; all, if there is none."""
    return tuple([mode for mode in range(policy.modes) if not modes_without(policy, mode)])


def forced_modes(policy):
    """The pairs (a, b) of live modes such that each obeying network with a site in mode a has one in mode b."""
    modes = modes_of(live_views(policy))
    found = []
    for b in modes:
        left = modes_without(policy, b)
        found.extend([(a, b) for a in modes if a != b and a not in left])
    return tuple(sorted(found))

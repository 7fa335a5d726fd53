"""Policies: the modes, and the views that are allowed."""

from handalong.basics import is_below, is_integer, is_sequence
from handalong.errors import InvalidPolicy, InvalidQuestion, InvalidScore, InvalidView
from handalong.views import MOST_MODES, is_view


class Policy:
    """The modes 0 to `modes` - 1 and the allowed views, ascending."""

    def __init__(self, modes, views):
        if not is_integer(modes) or not 1 <= modes <= MOST_MODES:
            raise InvalidPolicy(0)
        self.modes = modes
        self.views = checked_views(modes, views)
        self._spots = {view: at for at, view in enumerate(self.views)}

    def __eq__(self, other):
        return isinstance(other, Policy) and self.modes == other.modes and self.views == other.views

    def spot(self, view):
        """The index of any value among the allowed views, None if it is none of them."""
        # (True, ()) has the hash of (1, ()), so the table alone would take it for a view.
        return self._spots.get(view) if is_view(view) else None


def is_view_below(value, modes):
    """Whether any value is a view all of whose modes are below `modes`."""
    if not is_view(value):
        return False
    mode, neighbours = value
    return max([mode, *neighbours]) < modes


def checked_views(modes, views):
    """Any value as the ascending tuple of unlike views of so many modes."""
    if not is_sequence(views):
        raise InvalidView(0)
    known = {}
    for at, view in enumerate(views):
        if not is_view_below(view, modes) or view in known:
            raise InvalidView(at)
        known[view] = True
    return tuple(sorted(known))


def part(policy, places):
    """The policy with the views of these indexes alone."""
    if not is_sequence(places):
        raise InvalidQuestion(0)
    for at, place in enumerate(places):
        if not is_below(place, len(policy.views)):
            raise InvalidQuestion(at)
    return Policy(policy.modes, [view for at, view in enumerate(policy.views) if at in places])


def checked_scores(policy, scores):
    """Any value as the tuple of one integer for each allowed view."""
    return checked_integers(scores, len(policy.views))


def checked_integers(value, many):
    """Any value, a sequence of so many integers, as a tuple."""
    if not is_sequence(value):
        raise InvalidScore(many)
    for at, number in enumerate(value):
        if not is_integer(number):
            raise InvalidScore(at)
    if len(value) != many:
        raise InvalidScore(many)
    return tuple(value)

"""What evidence is made of, and how it is checked."""

from handalong.basics import is_tuple_of
from handalong.collected import is_collection, unbalanced
from handalong.ratios import compared
from handalong.transfers import is_transfer, lefts, sends


def is_told(value, word, length):
    """Whether any value is a tuple of so many things that begins with a word."""
    return is_tuple_of(value, length) and isinstance(value[0], str) and value[0] == word


def is_allowed(policy, value):
    """Whether any value is a collection of allowed views."""
    return is_collection(value) and all([policy.spot(view) is not None for view, _ in value])


def is_balanced(policy, value):
    """Whether any value is a balanced collection of allowed views."""
    return is_allowed(policy, value) and unbalanced(value) is None


def all_send(policy, value, least):
    """Whether any value is a transfer by which each allowed view sends at least so much."""
    if not is_transfer(policy.modes, value):
        return False
    return all([compared(sends(value, view), least) >= 0 for view in policy.views])


def all_left(policy, worth, value, least):
    """Whether any value is a transfer that leaves each allowed view at least so much."""
    if not is_transfer(policy.modes, value):
        return False
    return all([compared(left, least) >= 0 for left in lefts(policy, worth, value)])

"""Transfers: what a site in one mode sends to a neighbour in another mode."""

from handalong.basics import is_sequence, is_tuple_of
from handalong.errors import InvalidTransfer
from handalong.policies import checked_scores
from handalong.ratios import added, is_fraction, less, times
from handalong.views import seen

# The pairs of unlike modes, ascending, for each number of modes.
MODE_PAIRS = (
    (),
    (),
    ((0, 1),),
    ((0, 1), (0, 2), (1, 2)),
    ((0, 1), (0, 2), (0, 3), (1, 2), (1, 3), (2, 3)),
)

# The number of modes by the length of a transfer.
MODES_OF_LENGTH = {0: 1, 1: 2, 3: 3, 6: 4}


def is_transfer(modes, value):
    """Whether any value is a transfer for so many modes."""
    return is_tuple_of(value, len(MODE_PAIRS[modes])) and all([is_fraction(entry) for entry in value])


def checked_transfer(modes, value):
    """Any value, a sequence of fractions, as a transfer for so many modes."""
    many = len(MODE_PAIRS[modes])
    if not is_sequence(value):
        raise InvalidTransfer(many)
    for at, entry in enumerate(value):
        if not is_fraction(entry):
            raise InvalidTransfer(at)
    if len(value) != many:
        raise InvalidTransfer(many)
    return tuple(value)


def crossings(modes, view):
    """For each pair (a, b) how often the view gives (a, b) as mode and neighbour, less how often (b, a)."""
    mode = view[0]
    return tuple([crossing(mode, view, a, b) for a, b in MODE_PAIRS[modes]])


def crossing(mode, view, a, b):
    """How often a view has the mode a and a neighbour in mode b, less how often the other way round."""
    if mode == a:
        return seen(view, b)
    return -seen(view, a) if mode == b else 0


def sends(transfer, view):
    """What a view sends to all its neighbours together."""
    amount = (0, 1)
    for often, part_sent in zip(crossings(MODES_OF_LENGTH[len(transfer)], view), transfer):
        amount = added(amount, times((often, 1), part_sent))
    return amount


def sent(transfer, a, b):
    """What a site in mode a sends to a neighbour in mode b."""
    if a == b:
        return (0, 1)
    pairs = MODE_PAIRS[MODES_OF_LENGTH[len(transfer)]]
    if a < b:
        return transfer[pairs.index((a, b))]
    return times((-1, 1), transfer[pairs.index((b, a))])


def scaled(transfer, ratio):
    """The transfer with each of its fractions so many times as great."""
    return tuple([times(entry, ratio) for entry in transfer])


def lefts(policy, scores, transfer):
    """What each allowed view is left: its score less what it sends."""
    worth = checked_scores(policy, scores)
    checked = checked_transfer(policy.modes, transfer)
    return tuple([less((score, 1), sends(checked, view)) for score, view in zip(worth, policy.views)])

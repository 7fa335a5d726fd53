"""Changes: which modes sites with some views may take, one site at a time."""

from handalong.basics import is_below, is_integer, is_sequence, is_tuple_of
from handalong.errors import InvalidPolicy, InvalidQuestion, InvalidRule
from handalong.networks import Network
from handalong.views import MOST_MODES, are_neighbours, made_view


class ChangeBook:
    """The modes 0 to `modes` - 1 and the changes, ascending triples (mode, neighbours, to)."""

    def __init__(self, modes, changes):
        if not is_integer(modes) or not 1 <= modes <= MOST_MODES:
            raise InvalidPolicy(0)
        self.modes = modes
        self.changes = checked_changes(modes, changes)

    def __eq__(self, other):
        return isinstance(other, ChangeBook) and self.modes == other.modes and self.changes == other.changes

    def possible(self, network):
        """The pairs (site, to) that some change lets."""
        known = {change: True for change in self.changes}
        pairs = [(site, to) for site in range(len(network.modes)) for to in range(self.modes)]
        return tuple([(site, to) for site, to in pairs if network.view(site) + (to,) in known])

    def played(self, network, steps):
        """The network behind a play."""
        if not is_sequence(steps):
            raise InvalidQuestion(0)
        known = {change: True for change in self.changes}
        modes = list(network.modes)
        for at, step in enumerate(steps):
            if not is_step(step, len(modes)):
                raise InvalidQuestion(at)
            site, to = step
            view = made_view(modes[site], [modes[other] for other in network.neighbours(site)])
            if view + (to,) not in known:
                raise InvalidQuestion(at)
            modes[site] = to
        return Network(modes, network.links)


def is_step(value, many):
    """Whether any value is a pair of one of so many sites and a mode."""
    return is_tuple_of(value, 2) and is_below(value[0], many) and is_below(value[1], MOST_MODES)


def is_change(value, modes):
    """Whether any value tells a view of so many modes and another mode."""
    if not is_sequence(value) or len(value) != 3:
        return False
    mode, neighbours, to = value
    if not is_below(mode, modes) or not is_below(to, modes) or mode == to or not are_neighbours(neighbours):
        return False
    return max(neighbours, default=0) < modes


def checked_changes(modes, changes):
    """Any value as the ascending tuple of unlike changes."""
    if not is_sequence(changes):
        raise InvalidRule(0)
    known = {}
    for at, change in enumerate(changes):
        if not is_change(change, modes):
            raise InvalidRule(at)
        mode, neighbours, to = change
        kept = made_view(mode, neighbours) + (to,)
        if kept in known:
            raise InvalidRule(at)
        known[kept] = True
    return tuple(sorted(known))

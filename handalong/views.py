"""Views: the mode of a site and the modes of its neighbours."""

from handalong.basics import is_below, is_sequence, is_tuple_of
from handalong.errors import InvalidView

MOST_MODES = 4
MOST_NEIGHBOURS = 4


def is_mode(value):
    """Whether any value is a mode."""
    return is_below(value, MOST_MODES)


def are_neighbours(value):
    """Whether any value is a sequence of modes that a site may have around it."""
    if not is_sequence(value) or len(value) > MOST_NEIGHBOURS:
        return False
    return all([is_mode(mode) for mode in value])


def is_view(value):
    """Whether any value is a view."""
    if not is_tuple_of(value, 2):
        return False
    mode, neighbours = value
    if not is_mode(mode) or not isinstance(neighbours, tuple) or not are_neighbours(neighbours):
        return False
    return neighbours == tuple(sorted(neighbours))


def made_view(mode, neighbours):
    """The view with a mode and neighbours in any order."""
    if not is_mode(mode) or not are_neighbours(neighbours):
        raise InvalidView(0)
    return (mode, tuple(sorted(neighbours)))


def all_views(modes, degree):
    """All views with so many neighbours and modes below `modes`."""
    rows = [()]
    for _ in range(degree):
        rows = [row + (mode,) for row in rows for mode in range(row[-1] if row else 0, modes)]
    return tuple([(mode, row) for mode in range(modes) for row in rows])


def seen(view, mode):
    """How many neighbours of a view are in a mode."""
    return view[1].count(mode)

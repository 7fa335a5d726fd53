"""Covers: networks of copies of another one, linked by turns."""

from handalong.basics import is_below, is_integer, is_sequence, is_tuple_of
from handalong.errors import InvalidQuestion, Refused
from handalong.networks import Network

MOST_COPIES = 1000


def check_copies(network, copies, things):
    """Refuses what is no number of copies, or has not one thing for each link."""
    if not is_integer(copies) or not 1 <= copies <= MOST_COPIES:
        raise InvalidQuestion(1)
    if not is_sequence(things) or len(things) != len(network.links):
        raise InvalidQuestion(2)


def is_turn(value, copies):
    """Whether any value is a sequence of the numbers below `copies`, each once."""
    if not is_sequence(value) or not all([is_below(number, copies) for number in value]):
        return False
    return sorted(value) == list(range(copies))


def turned_over(network, copies, turns):
    """The cover with a turn for each link."""
    modes = [mode for mode in network.modes for _ in range(copies)]
    links = []
    for (one, other), turn in zip(network.links, turns):
        links.extend([(one * copies + at, other * copies + to) for at, to in enumerate(turn)])
    return Network(modes, links)


def cover(network, copies, turns):
    """The cover of a network with so many copies, turned at each link as told."""
    check_copies(network, copies, turns)
    for at, turn in enumerate(turns):
        if not is_turn(turn, copies):
            raise Refused(at)
    return turned_over(network, copies, turns)


def shifted(network, copies, shifts):
    """The cover of a network whose copies are shifted against each other at each link as told."""
    check_copies(network, copies, shifts)
    for at, shift in enumerate(shifts):
        if not is_integer(shift):
            raise Refused(at)
    return turned_over(network, copies, [[(own + shift) % copies for own in range(copies)] for shift in shifts])


def is_over(network, base, sites, *, modes=True):
    """Whether a network lies over a base by any value, a site of the base for each of its own."""
    if not is_tuple_of(sites, len(network.modes)) or not all([is_below(site, len(base.modes)) for site in sites]):
        return False
    if modes and network.modes != tuple([base.modes[site] for site in sites]):
        return False
    return all([near_sites(network, at, sites) == base.neighbours(site) for at, site in enumerate(sites)])


def near_sites(network, at, sites):
    """The told sites of the neighbours of a site, ascending."""
    return tuple(sorted([sites[other] for other in network.neighbours(at)]))

"""Weighings: weights of networks by the modes of links' ends and of sites, and what changes do to them."""

from handalong.basics import is_integer, is_tuple_of
from handalong.views import MOST_NEIGHBOURS


def is_weighing(modes, value):
    """Whether any value is a weighing of so many modes."""
    if not is_tuple_of(value, 2):
        return False
    return is_even_table(modes, value[0]) and are_rows(modes, MOST_NEIGHBOURS + 1, value[1])


def are_rows(modes, many, value):
    """Whether any value is a tuple of so many tuples of an integer for each mode."""
    if not is_tuple_of(value, many):
        return False
    return all([is_tuple_of(row, modes) and all([is_integer(number) for number in row]) for row in value])


def is_even_table(modes, value):
    """Whether any value is a tuple of a row for each mode that has the same integer for (a, b) and (b, a)."""
    if not are_rows(modes, modes, value):
        return False
    return all([value[a][b] == value[b][a] for a in range(modes) for b in range(a)])


def weight(weighing, network):
    """The sum of the weights of the links and of the sites."""
    links, sites = weighing
    modes = network.modes
    along = sum([links[modes[one]][modes[other]] for one, other in network.links])
    return along + sum([sites[len(view[1])][view[0]] for view in network.site_views()])


def effect(weighing, change):
    """What a change adds to the weight."""
    links, sites = weighing
    mode, neighbours, to = change
    along = sum([links[to][other] - links[mode][other] for other in neighbours])
    return along + sites[len(neighbours)][to] - sites[len(neighbours)][mode]


def room(weighing, network):
    """The weight less the least one that each link and each site could have."""
    links, sites = weighing
    along = len(network.links) * min([min(row) for row in links])
    return weight(weighing, network) - along - sum([min(sites[len(view[1])]) for view in network.site_views()])

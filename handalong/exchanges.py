"""Exchanges of two links, after which every site has the view that it had."""

from handalong.basics import is_below, is_tuple_of
from handalong.errors import Refused
from handalong.regions import exchanged_links, kind_of


def is_linked_pair(network, value):
    """Whether any value is a pair of sites that are linked."""
    if not is_tuple_of(value, 2) or not all([is_below(site, len(network.modes)) for site in value]):
        return False
    return value[1] in network.neighbours(value[0])


def can_exchange(network, one, other):
    """Whether two ordered links can exchange their second sites."""
    a, b = one
    c, d = other
    if a in other or b in other or kind_of(network, one) != kind_of(network, other):
        return False
    return d not in network.neighbours(a) and b not in network.neighbours(c)


def exchanged(network, one, other):
    """The network after an exchange."""
    if not is_linked_pair(network, one) or not is_linked_pair(network, other):
        raise Refused(0)
    if not can_exchange(network, one, other):
        raise Refused(1)
    return exchanged_links(network, one, other)


def exchanges(network):
    """All pairs of links, the second one perhaps turned round, that can be exchanged."""
    found = []
    for at, one in enumerate(network.links):
        for c, d in network.links[at + 1:]:
            found.extend([(one, other) for other in ((c, d), (d, c)) if can_exchange(network, one, other)])
    return tuple(sorted(found))


def seen_alike(one, other):
    """Whether two networks have as many sites, and each site the same view in both."""
    return one.site_views() == other.site_views()


def exchange_row(one, other):
    """Networks from one to another that is seen alike, each made from the one before by an exchange; else None."""
    if not seen_alike(one, other):
        return None
    found = [one]
    while found[-1].links != other.links:
        found.extend(along_circuit(found[-1], plain_circuit(found[-1], other)))
    return tuple(found)


def plain_circuit(one, other):
    """A circuit of links, by turns of the first network alone and of the other one alone, of one kind.

    It begins with a link of the first network and a site that it passes once. Each site is at
    most at one even and one odd place of it.
    """
    circuit = some_circuit(one, other)
    shorter = shortened(circuit)
    while shorter is not None:
        circuit = shorter
        shorter = shortened(circuit)
    # No two sites that are passed twice lie crosswise, so between some site's places all are passed once.
    at = [circuit.count(site) for site in circuit].index(1)
    if at % 2 == 0:
        return circuit[at:] + circuit[:at]
    return circuit[at::-1] + circuit[:at:-1]


def some_circuit(one, other):
    """A circuit by turns of links that only one of two networks has, of one kind, cut off at the first site again."""
    first, second = [(a, b) for a, b in one.links if b not in other.neighbours(a)][0]
    mode = one.modes[first]
    path = [first, second]
    used = {(first, second): True, (second, first): True}
    while True:
        wanted, mine, theirs = (mode, other, one) if len(path) % 2 == 0 else (one.modes[second], one, other)
        here = path[-1]
        near = [site for site in mine.neighbours(here) if one.modes[site] == wanted and (here, site) not in used]
        site = [alone for alone in near if alone not in theirs.neighbours(here)][0]
        used[(here, site)] = True
        used[(site, here)] = True
        path.append(site)
        begin = same_place(path)
        if begin is not None:
            return begun_even(path[begin:-1], begin)


def same_place(path):
    """Where the last site of a path stood before at as even or as odd a place, or None."""
    last = len(path) - 1
    for at in range(last % 2, last, 2):
        if path[at] == path[last]:
            return at
    return None


def begun_even(circuit, at):
    """A circuit cut out from a place on, turned so that it begins at an even one."""
    return circuit if at % 2 == 0 else circuit[1:] + circuit[:1]


def shortened(circuit):
    """A part of the links of a circuit that is a circuit of its own, or None if none is found."""
    pairs = [(at, behind) for at in range(len(circuit)) for behind in range(at + 1, len(circuit))
             if circuit[at] == circuit[behind]]
    for at, behind in pairs:
        if (behind - at) % 2 == 0:
            return begun_even(circuit[at:behind], at)
    for i, j in pairs:
        for k, last in pairs:
            if i < k < j < last:
                return begun_even(circuit[i:k] + circuit[last:j:-1], i)
    return None


def along_circuit(network, circuit):
    """The networks behind the exchanges that put the circuit's other links in the place of the network's own.

    Each exchange moves one link of the first site two places further; those that it has on the
    way make room first, and in the end each of them is replaced by the one behind it.
    """
    first = circuit[0]
    found = []
    last = network
    limit = len(circuit) - 1
    for start in range(len(circuit) - 3, 0, -2):
        if circuit[start] in network.neighbours(first):
            for at in range(start, limit, 2):
                last = exchanged_links(last, (first, circuit[at]), (circuit[at + 1], circuit[at + 2]))
                found.append(last)
            limit = start
    return found

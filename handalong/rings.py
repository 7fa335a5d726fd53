"""Rings in networks, doubled networks, and how often walks come back."""

from handalong.basics import is_below, is_sequence
from handalong.covers import turned_over
from handalong.errors import InvalidQuestion


def shorter_ring(network, start, least):
    """The length of a ring that is shorter than the least one known (None if there is none), or that.

    No ring through the start is shorter than what is told.
    """
    before = {start: start}
    away = {start: 0}
    row = [start]
    at = 0
    while at < len(row) and (least is None or 2 * away[row[at]] + 1 < least):
        site = row[at]
        for other in network.neighbours(site):
            if other not in away:
                before[other] = site
                away[other] = away[site] + 1
                row.append(other)
            elif other != before[site]:
                length = away[site] + away[other] + 1
                least = length if least is None else min(least, length)
        at += 1
    return least


def girth(network):
    """The least length of a ring, None if there is none."""
    least = None
    for start in range(len(network.modes)):
        least = shorter_ring(network, start, least)
    return least


def distances(network, start, limit):
    """A dict with how far each site is from a start, up to a limit."""
    away = {start: 0}
    row = [start]
    for far in range(1, limit + 1):
        behind = []
        for site in row:
            for other in network.neighbours(site):
                if other not in away:
                    away[other] = far
                    behind.append(other)
        row = behind
    return away


def shortest_ring(network):
    """The first of the shortest rings, or None."""
    length = girth(network)
    if length is None:
        return None
    for start in range(len(network.modes)):
        ring = first_ring(network, start, length)
        if ring is not None:
            return ring
    return None


def first_ring(network, start, length):
    """The first ring of the least length that begins at a site, or None.

    A walk of so many steps that comes back without turning round is a ring, as none is shorter.
    """
    away = distances(network, start, length // 2)
    path = []
    waiting = [(start, 0)]
    while waiting:
        site, depth = waiting.pop()
        path = path[:depth] + [site]
        left = length - depth - 1
        if left == 0:
            return tuple(path)
        steps = [other for other in network.neighbours(site) if other not in path[-2:]]
        waiting.extend([(other, depth + 1) for other in reversed(steps) if away.get(other, length) <= left])
    return None


def closing_links(network):
    """The links whose two sites are already joined by links before them."""
    placed = list(range(len(network.modes)))
    found = []
    for one, other in network.links:
        old, new = placed[one], placed[other]
        if old == new:
            found.append((one, other))
        else:
            placed = [new if place == old else place for place in placed]
    return found


def doubled(network):
    """The cover in which each closing link changes copies in a way of its own."""
    closing = closing_links(network)
    copies = 1 << len(closing)
    bits = {link: 1 << at for at, link in enumerate(closing)}
    return turned_over(network, copies, [[at ^ bits.get(link, 0) for at in range(copies)] for link in network.links])


def check_walk(network, walk):
    """Refuses any value that is no walk."""
    if not is_sequence(walk) or len(walk) == 0:
        raise InvalidQuestion(0)
    for at, site in enumerate(walk):
        if not is_below(site, len(network.modes)) or (at > 0 and site not in network.neighbours(walk[at - 1])):
            raise InvalidQuestion(at)


def reduced(network, walk):
    """What is left of a walk if each step that is taken back at once is left out."""
    check_walk(network, walk)
    left = []
    for site in walk:
        if left[-2:-1] == [site]:
            left.pop()
        else:
            left.append(site)
    return tuple(left)


def back_times(network, walk):
    """In how many of the network, the doubled one, and so on, a walk ends where it began; None if in all."""
    if len(reduced(network, walk)) == 1:
        return None
    places = list(walk)
    times_back = 0
    while places[-1] == places[0]:
        places = doubled_places(places)
        times_back += 1
    return times_back


def doubled_places(places):
    """Numbers for the places of a walk in the doubled network.

    Two places over the same one are the same if each link is passed an even number of times between them.
    """
    bits = {}
    parity = 0
    known = {(places[0], 0): 0}
    found = [0]
    for one, other in zip(places, places[1:]):
        parity ^= bits.setdefault((min(one, other), max(one, other)), 1 << len(bits))
        found.append(known.setdefault((other, parity), len(known)))
    return found

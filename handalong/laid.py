"""Networks that lie over two others at once, as in Leighton's theorem.

The *ends* of a network tell for each site, by the classes of its neighbours, a list of pairs
(neighbour, place): the site stands at this place in the neighbour's list for the site's class.
"""


def ends_of(network, kinds):
    """The ends of a network whose sites have these classes."""
    near = [{kind: [] for kind in kinds} for _ in kinds]
    for one, other in network.links:
        add_ends(near, kinds, one, other)
    return near


def draft_ends(draft):
    """The ends of a draft whose sites are all of class 0."""
    kinds = [0] * len(draft[0])
    near = [{0: []} for _ in kinds]
    for one, other in draft[1]:
        add_ends(near, kinds, one, other)
    return near


def add_ends(near, kinds, one, other):
    """Adds the two ends of a link."""
    here, there = near[one][kinds[other]], near[other][kinds[one]]
    place = len(here)
    # Both ends of a link from a site to itself stand in one list.
    back = len(there) + int(one == other)
    here.append((other, back))
    there.append((one, place))


def partner(ends, others, kinds, shares, site, step):
    """Where a step, a pair (class, place), leads from a site (v, w, number).

    The number tells by how much the places of v and those of w are turned against each other, for
    each class, and leaves a rest, which is the same at both ends of a link.
    """
    v, w, number = site
    kind, place = step
    row = ends[v][kind]
    turn, rest = divmod(number, shares[v] // len(row))
    near, back = row[place]
    other, other_back = others[w][kind][(place - turn) % len(row)]
    turned = ends[near][kinds[v]]
    return (near, other, (back - other_back) % len(turned) * (shares[near] // len(turned)) + rest)


def laid_over(ends, others, kinds, shares, starts):
    """The sites (v, w, number) that hang together with some, which lie over v and over w, and their links.

    `kinds` and `shares` tell the class of each v, and how many numbers there are.
    """
    found = list(starts)
    spots = {site: at for at, site in enumerate(found)}
    links = []
    at = 0
    while at < len(found):
        site = found[at]
        for step in [(kind, place) for kind, row in ends[site[0]].items() for place in range(len(row))]:
            other = partner(ends, others, kinds, shares, site, step)
            if other not in spots:
                spots[other] = len(found)
                found.append(other)
            if spots[other] > at:
                links.append((at, spots[other]))
        at += 1
    return (found, links)

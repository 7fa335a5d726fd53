"""Regions: live views that hang together, and connected networks."""

from handalong.errors import InvalidQuestion, Refused
from handalong.live import live_views
from handalong.means import greatest_mean, least_mean
from handalong.networks import Network, pieces
from handalong.policies import Policy, checked_scores
from handalong.views import MOST_MODES

FEWEST_NEIGHBOURS = 2


def can_be_linked(one, other):
    """Whether the mode of each of two views is one of the neighbours of the other."""
    return one[0] in other[1] and other[0] in one[1]


def region_of(live, view):
    """All live views to which chains of linked ones lead from a view."""
    reached = {view: True}
    waiting = [view]
    while waiting:
        at = waiting.pop()
        for other in live:
            if other not in reached and can_be_linked(at, other):
                reached[other] = True
                waiting.append(other)
    return tuple(sorted(reached))


def regions(policy):
    """All regions, each the tuple of its views."""
    live = live_views(policy)
    found = []
    placed = {}
    for view in live:
        if view not in placed:
            region = region_of(live, view)
            found.append(region)
            for other in region:
                placed[other] = True
    return tuple(found)


def check_ends(policy):
    """Refuses a policy by its first live view with fewer than two neighbours."""
    for view in live_views(policy):
        if len(view[1]) < FEWEST_NEIGHBOURS:
            raise Refused(policy.spot(view))


def spans(policy, scores):
    """The least and the greatest mean of each region."""
    worth = checked_scores(policy, scores)
    check_ends(policy)
    found = []
    for region in regions(policy):
        alone = Policy(policy.modes, region)
        numbers = [worth[policy.spot(view)] for view in region]
        found.append((least_mean(alone, numbers)[1], greatest_mean(alone, numbers)[1]))
    return tuple(found)


def connected(network):
    """Some connected network whose collection is a multiple of the network's, or None."""
    views = network.site_views()
    if min([len(neighbours) for _, neighbours in views]) < FEWEST_NEIGHBOURS:
        raise InvalidQuestion(0)
    unlike = {view: True for view in views}
    if len(regions(Policy(MOST_MODES, sorted(unlike)))) > 1:
        return None
    if len(pieces(network)) == 1:
        return network
    whole = twisted_double(network)
    while len(pieces(whole)) > 1:
        whole = merged(whole)
    return whole


def twisted_double(network):
    """Two copies of a network, crossed at each link that closes a ring.

    Then no link is one without which a piece falls apart: on both sides of such a link of the
    network some link closes a ring, so the copies of either side hang together.
    """
    many = len(network.modes)
    placed = list(range(many))
    links = []
    for one, other in network.links:
        if placed[one] == placed[other]:
            links.extend([(one, other + many), (one + many, other)])
        else:
            links.extend([(one, other), (one + many, other + many)])
            old, new = placed[one], placed[other]
            placed = [new if place == old else place for place in placed]
    return Network(network.modes + network.modes, links)


def merged(network):
    """The network with two of its pieces made one by an exchange of links of one kind.

    None of these links is one without which its piece falls apart, and this stays so.
    """
    piece_of = {site: at for at, piece in enumerate(pieces(network)) for site in piece}
    ordered = [(link, kind_of(network, link)) for link in network.links]
    ordered.extend([((other, one), kind_of(network, (other, one))) for one, other in network.links])
    known = {}
    for link, kind in ordered:
        first = known.setdefault(kind, link)
        if piece_of[first[0]] != piece_of[link[0]]:
            return exchanged_links(network, first, link)
    return network


def kind_of(network, link):
    """The modes of the two ends of a link."""
    return (network.modes[link[0]], network.modes[link[1]])


def exchanged_links(network, one, other):
    """The network in which the second ends of two links are exchanged."""
    gone = [tuple(sorted(one)), tuple(sorted(other))]
    links = [link for link in network.links if link not in gone]
    return Network(network.modes, links + [(one[0], other[1]), (other[0], one[1])])

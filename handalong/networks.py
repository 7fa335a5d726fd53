"""Networks: sites in modes, and the links between them."""

from handalong.basics import is_below, is_sequence
from handalong.errors import InvalidNetwork, InvalidQuestion, NotObeyed
from handalong.policies import checked_scores
from handalong.ratios import made
from handalong.views import MOST_NEIGHBOURS, is_mode, made_view


class Network:
    """A mode for each site, and the links as ascending pairs, the lesser site first."""

    def __init__(self, modes, links):
        self.modes = checked_modes(modes)
        self._near = linked_sites(len(self.modes), links)
        self.links = tuple([(one, other) for one, near in enumerate(self._near) for other in near if one < other])

    def __eq__(self, other):
        return isinstance(other, Network) and self.modes == other.modes and self.links == other.links

    def neighbours(self, at):
        """The sites that are linked to a site, ascending."""
        if not is_below(at, len(self.modes)):
            raise InvalidQuestion(0)
        return self._near[at]

    def view(self, at):
        """The view of a site."""
        if not is_below(at, len(self.modes)):
            raise InvalidQuestion(0)
        return made_view(self.modes[at], [self.modes[other] for other in self._near[at]])

    def site_views(self):
        """The views of all sites in their order."""
        return tuple([self.view(at) for at in range(len(self.modes))])


def checked_modes(modes):
    """Any value as the tuple of the modes of at least one site."""
    if not is_sequence(modes) or len(modes) == 0:
        raise InvalidNetwork(0)
    for at, mode in enumerate(modes):
        if not is_mode(mode):
            raise InvalidNetwork(at)
    return tuple(modes)


def linked_sites(many, links):
    """For each of so many sites the ascending tuple of those that any value links it to."""
    if not is_sequence(links):
        raise InvalidNetwork(many)
    near = [[] for _ in range(many)]
    for at, link in enumerate(links):
        if not can_link(near, link):
            raise InvalidNetwork(many + at)
        one, other = link
        near[one].append(other)
        near[other].append(one)
    return tuple([tuple(sorted(row)) for row in near])


def can_link(near, link):
    """Whether any value is a link that can be added to those that `near` tells."""
    if not is_sequence(link) or len(link) != 2:
        return False
    one, other = link
    if not is_below(one, len(near)) or not is_below(other, len(near)) or one == other:
        return False
    return other not in near[one] and len(near[one]) < MOST_NEIGHBOURS and len(near[other]) < MOST_NEIGHBOURS


def side_by_side(networks):
    """The network of several, the sites of each numbered on behind those before."""
    modes = []
    links = []
    for network in networks:
        first = len(modes)
        modes.extend(network.modes)
        links.extend([(first + one, first + other) for one, other in network.links])
    return Network(modes, links)


def pieces(network):
    """The ascending tuples of sites that hang together by links."""
    found = []
    placed = {}
    for site in range(len(network.modes)):
        if site not in placed:
            reached = reached_from(network, site)
            placed.update(reached)
            found.append(tuple(sorted(reached)))
    return tuple(found)


def reached_from(network, site):
    """A dict with each site to which links lead from a site, itself included."""
    reached = {site: True}
    waiting = [site]
    while waiting:
        at = waiting.pop()
        for other in network.neighbours(at):
            if other not in reached:
                reached[other] = True
                waiting.append(other)
    return reached


def breaches(policy, network):
    """The sites whose views the policy does not allow."""
    return tuple([at for at, view in enumerate(network.site_views()) if policy.spot(view) is None])


def total(policy, scores, network):
    """The sum of the scores of the views of all sites."""
    worth = checked_scores(policy, scores)
    wrong = breaches(policy, network)
    if wrong:
        raise NotObeyed(wrong[0])
    return sum([worth[policy.spot(view)] for view in network.site_views()])


def mean(policy, scores, network):
    """The mean score of all sites, a fraction."""
    return made(total(policy, scores, network), len(network.modes))

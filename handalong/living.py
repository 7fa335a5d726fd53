"""A network that changes, one deed at a time, and takes its deeds back."""

from handalong.basics import is_below
from handalong.errors import NotObeyed, Refused
from handalong.networks import Network, breaches
from handalong.policies import checked_scores
from handalong.ratios import less
from handalong.transfers import checked_transfer, sends
from handalong.views import MOST_NEIGHBOURS, seen


class Living:
    """The modes of the sites, in the order in which they were added, and the links, ascending pairs."""

    def __init__(self, policy):
        self.policy = policy
        self.modes = ()
        self.links = ()
        self._past = []

    def __eq__(self, other):
        # It changes, so it equals nothing but itself.
        return self is other

    def __len__(self):
        return len(self._past)

    def add(self, mode):
        """Adds a site without links and returns its number."""
        self._check(is_below(mode, self.policy.modes))
        self._do(self.modes + (mode,), self.links)
        return len(self.modes) - 1

    def turn(self, site, mode):
        """Changes the mode of a site."""
        self._check(is_below(site, len(self.modes)) and is_below(mode, self.policy.modes))
        self._do(self.modes[:site] + (mode,) + self.modes[site + 1:], self.links)

    def link(self, one, other):
        """Links two sites that are not linked."""
        many = len(self.modes)
        self._check(is_below(one, many) and is_below(other, many) and one != other)
        pair = (min(one, other), max(one, other))
        self._check(pair not in self.links and self._has_room(one) and self._has_room(other))
        self._do(self.modes, tuple(sorted([*self.links, pair])))

    def cut(self, one, other):
        """Takes a link away."""
        many = len(self.modes)
        self._check(is_below(one, many) and is_below(other, many))
        pair = (min(one, other), max(one, other))
        self._check(pair in self.links)
        self._do(self.modes, tuple([link for link in self.links if link != pair]))

    def network(self):
        """The network as it is now."""
        self._check(len(self.modes) > 0)
        return Network(self.modes, self.links)

    def undo(self):
        """Takes back the last deed; whether there was one."""
        if len(self._past) == 0:
            return False
        self.modes, self.links = self._past.pop()
        return True

    def within(self, work):
        """What work returns of this network, all deeds done in it being taken back."""
        modes, links, past = self.modes, self.links, self._past
        self._past = list(past)
        try:
            return work(self)
        finally:
            self.modes = modes
            self.links = links
            self._past = past

    def wrong_sites(self):
        """The sites whose view the policy does not allow."""
        return breaches(self.policy, self.network()) if len(self.modes) > 0 else ()

    def obeys(self):
        """Whether there is a site and none is wrong."""
        return len(self.modes) > 0 and len(self.wrong_sites()) == 0

    def total(self, scores):
        """The sum of the scores of the sites' views."""
        worth = checked_scores(self.policy, scores)
        return sum([worth[self.policy.spot(view)] for view in self._right_views()])

    def left_at(self, scores, transfer):
        """What the sites are left of their scores by a transfer."""
        worth = checked_scores(self.policy, scores)
        checked = checked_transfer(self.policy.modes, transfer)
        views = self._right_views()
        return tuple([less((worth[self.policy.spot(view)], 1), sends(checked, view)) for view in views])

    def waiting(self, site):
        """The allowed views that a site has or could come to by further links alone."""
        self._check(is_below(site, len(self.modes)))
        now = self.network().view(site)
        return tuple([view for view in self.policy.views if can_come(now, view)])

    def open_ends(self):
        """How many half-links of each kind the wrong sites miss; None if one of them waits for nothing."""
        counts = {}
        for site in self.wrong_sites():
            waited = self.waiting(site)
            if len(waited) == 0:
                return None
            now = self.network().view(site)
            for mode in range(self.policy.modes):
                missing = seen(waited[0], mode) - seen(now, mode)
                if missing > 0:
                    counts[(now[0], mode)] = counts.get((now[0], mode), 0) + missing
        return tuple([(one, other, many) for (one, other), many in sorted(counts.items())])

    def _check(self, can_be_done):
        if not can_be_done:
            raise Refused(0)

    def _do(self, modes, links):
        self._past.append((self.modes, self.links))
        self.modes = modes
        self.links = links

    def _has_room(self, site):
        return len([link for link in self.links if site in link]) < MOST_NEIGHBOURS

    def _right_views(self):
        wrong = self.wrong_sites()
        if len(wrong) > 0:
            raise NotObeyed(wrong[0])
        return self.network().site_views() if len(self.modes) > 0 else ()


def can_come(now, view):
    """Whether a site with a view can come to another one by further links alone."""
    return now[0] == view[0] and all([now[1].count(mode) <= view[1].count(mode) for mode in now[1]])

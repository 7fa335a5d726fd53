"""Rules by which all sites change their modes at once."""

from handalong.basics import is_below, is_sequence
from handalong.errors import InvalidRule, InvalidView, NotObeyed
from handalong.networks import Network, breaches


class Rule:
    """A policy, and the mode that each of its views is told."""

    def __init__(self, policy, told):
        self.policy = policy
        self.told = checked_told(policy, told)

    def __eq__(self, other):
        return isinstance(other, Rule) and self.policy == other.policy and self.told == other.told

    def new_mode(self, view):
        """The mode that any value, an allowed view, is told."""
        at = self.policy.spot(view)
        if at is None:
            raise InvalidView(0)
        return self.told[at]


def checked_told(policy, told):
    """Any value as the tuple of a mode for each allowed view."""
    if not is_sequence(told):
        raise InvalidRule(len(policy.views))
    for at, mode in enumerate(told):
        if not is_below(mode, policy.modes):
            raise InvalidRule(at)
    if len(told) != len(policy.views):
        raise InvalidRule(len(policy.views))
    return tuple(told)


def beat(rule, network):
    """The network in which each site has the mode that its view is told."""
    wrong = breaches(rule.policy, network)
    if wrong:
        raise NotObeyed(wrong[0])
    return Network([rule.new_mode(view) for view in network.site_views()], network.links)


def beats(rule, network, many):
    """The network and so many beats, each of the one before, as long as these obey."""
    found = [network]
    while len(found) <= many and not breaches(rule.policy, found[-1]):
        found.append(beat(rule, found[-1]))
    return tuple(found)

"""Weights of modes, and what the beats of a rule do to them."""

from handalong.basics import product_sum
from handalong.errors import NotObeyed, Refused
from handalong.exact import null_rows
from handalong.kept import is_nought_evidence, nought_evidence, weights_basis
from handalong.live import live_views, modes_of
from handalong.means import greatest_mean
from handalong.networks import breaches
from handalong.nexts import chain, escape
from handalong.policies import checked_integers
from handalong.proofs import is_told
from handalong.ratios import made
from handalong.rules import Rule
from handalong.shares import worst_ratio
from handalong.steps import sum_step
from handalong.transfers import MODE_PAIRS, checked_transfer, crossings, sends, sent


def gains(rule, weights):
    """For each allowed view the weight of the mode told less that of its own."""
    worth = checked_integers(weights, rule.policy.modes)
    return tuple([worth[mode] - worth[view[0]] for mode, view in zip(rule.told, rule.policy.views)])


def moved_evidence(rule, weights):
    """A transfer that sends the gain at each live view, or a collection that gains something."""
    answer = nought_evidence(rule.policy, gains(rule, weights))
    return ("moved", answer[1]) if answer[0] == "nought" else answer


def is_moved_evidence(rule, weights, value):
    """Whether any value is a right answer of `moved_evidence`."""
    told = gains(rule, weights)
    if is_told(value, "moved", 2):
        return is_nought_evidence(rule.policy, told, ("nought", value[1]))
    return is_told(value, "network", 2) and is_nought_evidence(rule.policy, told, value)


def moves(rule, weights, transfer, network):
    """For each link (i, j) the triple (i, j, what i gets from j) by a transfer."""
    told = gains(rule, weights)
    checked = checked_transfer(rule.policy.modes, transfer)
    wrong = breaches(rule.policy, network)
    if wrong:
        raise NotObeyed(wrong[0])
    for site, view in enumerate(network.site_views()):
        if sends(checked, view) != (told[rule.policy.spot(view)], 1):
            raise Refused(site)
    modes = network.modes
    return tuple([(one, other, sent(checked, modes[one], modes[other])) for one, other in network.links])


def greatest_gain(rule, weights):
    """The greatest mean of the gains."""
    return greatest_mean(rule.policy, gains(rule, weights))


def fall(rule, weights):
    """By how much, at least, a beat lowers the weight for each site that changes."""
    losses = [-gain for gain in gains(rule, weights)]
    changed = [int(mode != view[0]) for mode, view in zip(rule.told, rule.policy.views)]
    return worst_ratio(rule.policy, losses, changed)


def rest_bound(rule, weights):
    """How many changes of sites there are at most, for each site, in all beats together; None if this bars none."""
    answer = fall(rule, weights)
    if escape(rule) is not None:
        return None
    # What does not change gains nothing, so some c serves.
    if answer[0] == "every":
        return (0, 1)
    top, bottom = answer[1]
    if top <= 0:
        return None
    told = [weights[mode] for mode in modes_of(live_views(rule.policy))]
    return made((max(told) - min(told)) * bottom, top)


def gain_step(rule, weights):
    """The greatest number of which the gains of all networks are multiples."""
    return sum_step(rule.policy, gains(rule, weights))


def kept_weights(rule):
    """The reduced basis of the weights that a beat keeps in every network."""
    modes = rule.policy.modes
    rows = [gain_row(rule, view) + crossings(modes, view) for view in live_views(rule.policy)]
    return weights_basis(modes, rows)


def gain_row(rule, view):
    """How often the weight of each mode is in the gain of a view."""
    new = rule.new_mode(view)
    return tuple([int(mode == new) - int(mode == view[0]) for mode in range(rule.policy.modes)])


def lasting_weights(rule):
    """The reduced basis of the weights that a beat keeps in every network that obeys the last policy of the chain."""
    last = chain(rule)[-1]
    return kept_weights(Rule(last, [rule.new_mode(view) for view in last.views]))


def keeping_rules(policy, weights):
    """What all rules tell that leave dead views alone and keep the weight of every network."""
    worth = checked_integers(weights, policy.modes)
    live = live_views(policy)
    rows = [crossings(policy.modes, view) for view in live]
    changes = null_rows([[row[place] for row in rows] for place in range(len(MODE_PAIRS[policy.modes]))], len(live))
    found = []
    for modes in mode_rows(policy.modes, len(live)):
        gained = [worth[mode] - worth[view[0]] for mode, view in zip(modes, live)]
        if all([product_sum(gained, change) == 0 for change in changes]):
            told = {view: mode for view, mode in zip(live, modes)}
            found.append(tuple([told.get(view, view[0]) for view in policy.views]))
    return tuple(found)


def mode_rows(modes, many):
    """All rows of so many modes below `modes`, ascending."""
    rows = [()]
    for _ in range(many):
        rows = [row + (mode,) for row in rows for mode in range(modes)]
    return rows

"""Weights of links, and what the beats of a rule do to their sum."""

from handalong.basics import is_tuple_of
from handalong.clocks import clock_pairs
from handalong.collected import collection_total
from handalong.kept import nought_evidence
from handalong.live import live_views
from handalong.policies import Policy, checked_integers
from handalong.proofs import is_balanced, is_told
from handalong.ratios import added, is_fraction, less, times
from handalong.regions import can_be_linked
from handalong.transfers import sent


def checked_table(rule, link_weights):
    """Any value as a dict with the weight of a link for each two modes, in both orders."""
    pairs = clock_pairs(rule.policy.modes)
    table = {}
    for (a, b), weight in zip(pairs, checked_integers(link_weights, len(pairs))):
        table[(a, b)] = weight
        table[(b, a)] = weight
    return table


def link_gain(rule, table, one, other):
    """The weight of a link between the modes told two views less that of one between their own."""
    return table[(rule.new_mode(one), rule.new_mode(other))] - table[(one[0], other[0])]


def facing_views(live, view, mode):
    """The live views of a mode that can be linked with those that have the mode of a view and see this one."""
    if mode not in view[1]:
        return []
    return [other for other in live if other[0] == mode and view[0] in other[1]]


def first_exchange(rule, table, live):
    """The first four live views whose link gains do not add up crosswise, or None."""
    for x in live:
        for u in live:
            if u[0] == x[0] and rule.new_mode(u) != rule.new_mode(x):
                found = crosswise(rule, table, live, x, u)
                if found is not None:
                    return (x, u) + found
    return None


def crosswise(rule, table, live, x, u):
    """The first two live views, y and v, for which x, y and u, v gain otherwise than x, v and u, y, or None."""
    for mode in range(rule.policy.modes):
        if mode in u[1]:
            others = facing_views(live, x, mode)
            leads = [link_gain(rule, table, x, y) - link_gain(rule, table, u, y) for y in others]
            for y, lead in zip(others, leads):
                unlike = [v for v, other in zip(others, leads) if other != lead]
                if unlike:
                    return (y, unlike[0])
    return None


def twice_shares(rule, table, live):
    """For each live view a dict with twice its part of the link gain for each mode that it sees.

    If there is no exchange, the parts of two views add up to their link gain. Between unlike modes
    the lesser one's views have all that they gain with one partner, within a mode each has half.
    """
    found = []
    for view in live:
        parts = {}
        for mode in view[1]:
            partner = facing_views(live, view, mode)[0]
            if view[0] == mode:
                parts[mode] = link_gain(rule, table, view, view)
            elif view[0] < mode:
                parts[mode] = 2 * link_gain(rule, table, view, partner)
            else:
                first = facing_views(live, partner, view[0])[0]
                parts[mode] = 2 * (link_gain(rule, table, view, partner) - link_gain(rule, table, first, partner))
        found.append(parts)
    return found


def twice_gains(live, parts):
    """The sums of twice the parts of the live views over all their neighbours."""
    return [sum([told[mode] for mode in view[1]]) for view, told in zip(live, parts)]


def link_evidence(rule, link_weights):
    """Shares of the link gains that cancel at each view, or four views or a collection that bar this."""
    table = checked_table(rule, link_weights)
    live = live_views(rule.policy)
    exchange = first_exchange(rule, table, live)
    if exchange is not None:
        return ("exchange",) + exchange
    parts = twice_shares(rule, table, live)
    answer = nought_evidence(Policy(rule.policy.modes, live), twice_gains(live, parts))
    if answer[0] == "network":
        return answer
    return ("shares", tuple([shares_of(view, told, answer[1]) for view, told in zip(live, parts)]))


def shares_of(view, parts, transfer):
    """What is left of the parts of a view, one for each neighbour, if twice their sum is sent along."""
    return tuple([times(less((parts[mode], 1), sent(transfer, view[0], mode)), (1, 2)) for mode in view[1]])


def is_link_evidence(rule, link_weights, value):
    """Whether any value is a right answer of `link_evidence`."""
    table = checked_table(rule, link_weights)
    live = live_views(rule.policy)
    if is_told(value, "shares", 2):
        return are_shares(live, value[1]) and all_add_up(rule, table, live, value[1])
    if is_told(value, "exchange", 5):
        return is_exchange(rule, table, live, value[1:])
    if not is_told(value, "network", 2) or not is_balanced(rule.policy, value[1]):
        return False
    if first_exchange(rule, table, live) is not None:
        return False
    sums = twice_gains(live, twice_shares(rule, table, live))
    return collection_total(Policy(rule.policy.modes, live), sums, value[1]) != 0


def are_shares(live, value):
    """Whether any value tells each live view fractions for its neighbours, equal for equal modes, that sum to 0."""
    if not is_tuple_of(value, len(live)):
        return False
    return all([are_shares_of(view, shares) for view, shares in zip(live, value)])


def are_shares_of(view, value):
    """Whether any value is a tuple of fractions for the neighbours of a view that sum to 0."""
    if not is_tuple_of(value, len(view[1])) or not all([is_fraction(share) for share in value]):
        return False
    amount = (0, 1)
    for share in value:
        amount = added(amount, share)
    return amount == (0, 1) and all([share == share_for(view, value, mode) for mode, share in zip(view[1], value)])


def share_for(view, shares, mode):
    """The share of a view for a mode that it sees."""
    return shares[view[1].index(mode)]


def all_add_up(rule, table, live, shares):
    """Whether the link gains of all live views that can be linked are the sums of their shares."""
    told = {view: row for view, row in zip(live, shares)}
    for x in live:
        for mode in x[1]:
            for y in facing_views(live, x, mode):
                amount = added(share_for(x, told[x], mode), share_for(y, told[y], x[0]))
                if amount != (link_gain(rule, table, x, y), 1):
                    return False
    return True


def is_exchange(rule, table, live, values):
    """Whether any four values are live views whose link gains do not add up crosswise."""
    if not all([rule.policy.spot(view) is not None and view in live for view in values]):
        return False
    x, u, y, v = values
    if x[0] != u[0] or y[0] != v[0] or not can_be_linked(x, y) or not can_be_linked(u, v):
        return False
    straight = link_gain(rule, table, x, y) + link_gain(rule, table, u, v)
    return straight != link_gain(rule, table, x, v) + link_gain(rule, table, u, y)

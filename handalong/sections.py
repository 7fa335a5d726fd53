"""Sections of networks, their cuts, and the least mean that sections have at a price of what they cut."""

from handalong.basics import is_below, product_sum
from handalong.building import seats
from handalong.collected import copies, half_links
from handalong.drafts import draft_of, untangled
from handalong.errors import InvalidQuestion, NoNetwork
from handalong.hulls import falling_corners
from handalong.live import live_evidence, live_views
from handalong.margins import costs_just
from handalong.policies import checked_scores
from handalong.proofs import all_send, is_allowed, is_told
from handalong.ratios import added, compared, is_fraction, less, made, times
from handalong.simplex import least_cost
from handalong.transfers import MODE_PAIRS, crossings, is_transfer, scaled, sends
from handalong.views import MOST_MODES


def check_section(network, value):
    """Refuses any value that is no ascending tuple of at least one site."""
    if not isinstance(value, tuple) or len(value) == 0:
        raise InvalidQuestion(1)
    if not all([is_below(site, len(network.modes)) for site in value]):
        raise InvalidQuestion(1)
    if not all([value[at - 1] < value[at] for at in range(1, len(value))]):
        raise InvalidQuestion(1)


def cut_of(network, sites):
    """How many links of each kind lead out of a section."""
    check_section(network, sites)
    counts = {}
    for site in sites:
        for other in network.neighbours(site):
            if other not in sites:
                kind = (network.modes[site], network.modes[other])
                counts[kind] = counts.get(kind, 0) + 1
    return tuple(sorted(counts.items()))


def frontier(network, sites):
    """How many links between unlike modes lead out of a section."""
    return sum([many for (a, b), many in cut_of(network, sites) if a != b])


def gap(collection):
    """How many links between unlike modes at least lead out of a section with these views."""
    pairs = MODE_PAIRS[MOST_MODES]
    return sum([abs(half_links(collection, a, b) - half_links(collection, b, a)) for a, b in pairs])


def check_price(value):
    """Refuses any value that is no fraction from 0 on."""
    if not is_fraction(value) or value[0] < 0:
        raise InvalidQuestion(2)


def gap_columns(modes, views):
    """A column for each view, what it sends and 1 site, and behind them two for each pair of modes.

    These make up for what the views send, to the one side and to the other.
    """
    many = len(MODE_PAIRS[modes])
    ones = [tuple([int(place == at) for place in range(many)]) for at in range(many)]
    outward = [row + (0,) for row in ones]
    inward = [tuple([-number for number in row]) + (0,) for row in ones]
    return [crossings(modes, view) + (1,) for view in views] + outward + inward


def gap_goal(modes):
    """The goal of such columns: nothing is sent, and there is one site."""
    return (0,) * len(MODE_PAIRS[modes]) + (1,)


def gap_costs(modes, numbers, price):
    """The costs of such columns: numbers for the views, a price for what makes up for them."""
    return tuple(numbers) + (price,) * (2 * len(MODE_PAIRS[modes]))


def numbers_of(policy, worth, views):
    """The scores of some allowed views."""
    return [worth[policy.spot(view)] for view in views]


def rate(policy, scores, price):
    """The rate at a price, with a transfer that proves it, and a collection that sections may have."""
    worth = checked_scores(policy, scores)
    check_price(price)
    collection, transfer = live_evidence(policy)
    if not collection:
        return ("none", transfer)
    live = [view for view, _ in collection]
    top, bottom = price
    costs = gap_costs(policy.modes, [bottom * score for score in numbers_of(policy, worth, live)], top)
    amounts, prices = least_cost(gap_columns(policy.modes, live), costs, gap_goal(policy.modes))
    fractions = scaled(prices, made(1, bottom))
    cheapest = tuple([(view, amounts[at]) for at, view in enumerate(live) if at in amounts])
    return ("rate", fractions[-1], fractions[:-1], cheapest)


def is_rate_evidence(policy, scores, price, value):
    """Whether any value is a right answer of `rate`."""
    worth = checked_scores(policy, scores)
    check_price(price)
    if is_told(value, "none", 2):
        return all_send(policy, value[1], (1, 1))
    if not is_told(value, "rate", 4):
        return False
    _, fraction, transfer, collection = value
    if not is_fraction(fraction) or not is_transfer(policy.modes, transfer) or not is_allowed(policy, collection):
        return False
    live = live_views(policy)
    if not all([view in live for view, _ in collection]):
        return False
    if not all([compared((abs(top), bottom), price) <= 0 for top, bottom in transfer]):
        return False
    lefts_told = [less((worth[policy.spot(view)], 1), sends(transfer, view)) for view in live]
    if not all([compared(left, fraction) >= 0 for left in lefts_told]):
        return False
    return costs_just(policy, worth, collection, fraction, times(price, (-gap(collection), 1)))


def rate_steps(policy, scores):
    """The pairs (price, rate) where the lines begin of which the rate consists."""
    worth = checked_scores(policy, scores)
    live = live_views(policy)
    if not live:
        raise NoNetwork()
    gaps = gap_costs(policy.modes, [0 for _ in live], 1)
    costs = gap_costs(policy.modes, numbers_of(policy, worth, live), 0)
    # The corners are pairs of the gap and the score of a site; at a price the least sum of both counts.
    chain = falling_corners(gap_columns(policy.modes, live), gap_goal(policy.modes), gaps, costs)
    found = [((0, 1), chain[-1][1])]
    for at in reversed(range(1, len(chain))):
        (near, high), (far, low) = chain[at - 1], chain[at]
        price = quotient(less(high, low), less(far, near))
        found.append((price, added(high, times(price, near))))
    return tuple(found)


def quotient(one, other):
    """The first fraction divided by the second one."""
    return made(one[0] * other[1], one[1] * other[0])


def rate_section(policy, scores, price):
    """Some obeying network and a section of it that has just the rate."""
    worth = checked_scores(policy, scores)
    answer = rate(policy, worth, price)
    if answer[0] == "none":
        raise NoNetwork()
    inner, outer = completed(policy.modes, live_views(policy), answer[3])
    plan = seats(inner) + seats(outer)
    # A draft pairs open ends in the order of the sites: those of the section with each other as far as they go.
    network = untangled(draft_of(plan))
    many = len(plan)
    return (network, tuple([site for site in range(len(network.modes)) if site % many < len(seats(inner))]))


def completed(modes, live, collection):
    """Copies of a collection of live views, and some collection, or (), with which these can be a network."""
    sent = [product_sum([count for _, count in collection], row) for row in sides_of(modes, collection)]
    columns = [crossings(modes, view) + (0,) for view in live] + [tuple(sent) + (1,)]
    amounts, _ = least_cost(columns, [1 for _ in columns], gap_goal(modes))
    inner = copies(collection, amounts[len(live)])
    outer = tuple([(view, amounts[at]) for at, view in enumerate(live) if at in amounts])
    odd = [mode for mode in range(modes) if half_links(inner + outer, mode, mode) % 2 == 1]
    return (copies(inner, 2), copies(outer, 2)) if odd else (inner, outer)


def sides_of(modes, collection):
    """For each pair of modes what the views of a collection send."""
    rows = [crossings(modes, view) for view, _ in collection]
    return [[row[at] for row in rows] for at in range(len(MODE_PAIRS[modes]))]

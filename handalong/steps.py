"""The numbers of which sums, numbers of sites and numbers of links are always multiples."""

from handalong.basics import common_divisor, product_sum
from handalong.clocks import clock_pairs, clock_steps, live_scores
from handalong.errors import NoNetwork
from handalong.live import live_views
from handalong.policies import checked_scores
from handalong.views import seen
from handalong.wholes import staircase


def known_live(policy):
    """The live views, of which there must be some."""
    live = live_views(policy)
    if not live:
        raise NoNetwork()
    return live


def step_of(changes, numbers):
    """The greatest number of which the sums of all changes, for the scores of the live views, are multiples."""
    return common_divisor([product_sum(change, numbers) for change in changes])


def sum_step(policy, scores):
    """The greatest number of which all networks' sums are multiples, 0 if all are 0."""
    worth = checked_scores(policy, scores)
    live = live_views(policy)
    return step_of(clock_steps(policy, live)[1], live_scores(policy, worth, live))


def size_step(policy):
    """The greatest number of which all networks' numbers of sites are multiples."""
    live = known_live(policy)
    return step_of(clock_steps(policy, live)[1], [1 for _ in live])


def link_steps(policy):
    """For each pair of modes the greatest number of which all networks' numbers of such links are multiples."""
    live = known_live(policy)
    _, changes = clock_steps(policy, live)
    found = []
    for a, b in clock_pairs(policy.modes):
        half_links_step = step_of(changes, [seen(view, b) if view[0] == a else 0 for view in live])
        # A link within a mode has two half-links of its kind.
        found.append((a, b, half_links_step // 2 if a == b else half_links_step))
    return tuple(found)


def sum_rule(policy, scores):
    """The triple (e, r, k): with e j sites the sum is r j, but for a multiple of k."""
    worth = checked_scores(policy, scores)
    live = known_live(policy)
    numbers = live_scores(policy, worth, live)
    _, changes = clock_steps(policy, live)
    steps, _ = staircase([(sum(change), product_sum(change, numbers)) for change in changes])
    size, amount = steps[0][0]
    if size < 0:
        amount = -amount
    if len(steps) == 1:
        return (abs(size), amount, 0)
    k = abs(steps[1][0][1])
    return (abs(size), amount % k, k)

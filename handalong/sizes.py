"""Numbers of sites of networks, and the least sums of networks with so many sites."""

from heapq import heappop, heappush
from math import gcd

from handalong.basics import common_divisor, is_integer, is_sequence, is_tuple_of, product_sum
from handalong.clocks import changed_counts, check_number, clock_steps, fits, fitting_clock, is_network_collection
from handalong.clocks import network_counts
from handalong.collected import collection_total, sites
from handalong.errors import InvalidQuestion
from handalong.live import live_evidence, live_views
from handalong.policies import checked_scores, part
from handalong.steps import known_live, size_step, step_of
from handalong.tight import tight_views
from handalong.transfers import MODE_PAIRS, crossings

MOST_SIZES = 8
GREATEST_SIZE = 200


def size_evidence(policy):
    """A clock and collections of networks that prove the size step."""
    live = known_live(policy)
    steps, changes = clock_steps(policy, live)
    ones = [1 for _ in live]
    step = step_of(changes, ones)
    return (fitting_clock(policy, steps, ones), size_witnesses(live_evidence(policy)[0], changes, step))


def size_witnesses(base, changes, step):
    """Collections of networks, the first found, whose numbers of sites have just this common divisor."""
    found = []
    common = 0
    many = 0
    while common != step:
        for change in changes:
            for row in changed_counts(base, many, change):
                collection = network_counts(base, row)
                if collection is not None and gcd(common, sites(collection)) != common:
                    common = gcd(common, sites(collection))
                    found.append(collection)
        many += 1
    return tuple(found)


def is_size_evidence(policy, value):
    """Whether any value is a right answer of `size_evidence`."""
    if not is_tuple_of(value, 2):
        return False
    clock, collections = value
    if not isinstance(collections, tuple) or len(collections) == 0:
        return False
    if not all([is_network_collection(policy, collection) for collection in collections]):
        return False
    # Some network obeys, as it has the first of these collections.
    step = size_step(policy)
    if common_divisor([sites(collection) for collection in collections]) != step:
        return False
    return fits(policy, tuple([1 for _ in policy.views]), step, clock)


def is_size(value):
    """Whether any value is a number of sites of which sums may be asked."""
    return is_integer(value) and 1 <= value <= GREATEST_SIZE


def sums_from(sizes):
    """The least multiple of the common divisor from which on all multiples are sums of members."""
    if not is_sequence(sizes) or not 1 <= len(sizes) <= MOST_SIZES or not all([is_size(size) for size in sizes]):
        raise InvalidQuestion(0)
    return sums_begin(sizes)


def sums_begin(sizes):
    """What `sums_from` tells, of any integers from 1 on."""
    least = min(sizes)
    # Each multiple of the divisor is a sum from the least sum with its remainder on.
    return max(list(least_sums(sizes, least).values())) - least + common_divisor(sizes)


def least_sums(sizes, divisor):
    """The least sum of members for each remainder that sums have."""
    found = {}
    queue = [0]
    while queue:
        amount = heappop(queue)
        if amount % divisor not in found:
            found[amount % divisor] = amount
            for size in sizes:
                heappush(queue, amount + size)
    return found


def sizes_to(policy, limit):
    """All numbers of sites of networks up to a limit."""
    check_number(limit, 1)
    live = live_views(policy)
    step = size_step(policy) if live else limit + 1
    found = []
    # From here on, if it is known, all multiples of the step are numbers of sites.
    sure = None
    for number in range(step, limit + 1, step):
        if sure is not None and number >= sure:
            found.append(number)
        elif any([number - size in found for size in found]) or networks_of(policy.modes, live, number):
            found.append(number)
            sure = sums_begin(found) if common_divisor(found) == step else None
    return tuple(found)


def spreads(many, number):
    """All rows of so many numbers, at least one, with a sum."""
    rows = [((), number)]
    for _ in range(many - 1):
        rows = [(row + (count,), rest - count) for row, rest in rows for count in range(rest + 1)]
    return [row + (rest,) for row, rest in rows]


def networks_of(modes, live, number):
    """The collections of all networks with so many sites, of some live views."""
    sides = [[crossings(modes, view)[at] for view in live] for at in range(len(MODE_PAIRS[modes]))]
    base = [(view, 1) for view in live]
    even = [row for row in spreads(len(live), number) if all([product_sum(row, side) == 0 for side in sides])]
    told = [network_counts(base, row) for row in even]
    return [collection for collection in told if collection is not None]


def best_sum(policy, scores, number):
    """The least sum of a network with so many sites, and the first collection with it, or None."""
    worth = checked_scores(policy, scores)
    check_number(number, 2)
    live = live_views(policy)
    if not live:
        return None
    told = networks_of(policy.modes, live, number)
    return min([(collection_total(policy, worth, collection), collection) for collection in told], default=None)


def tight_step(policy, scores):
    """The greatest number of which the numbers of sites of all networks of the least mean are multiples."""
    return size_step(part(policy, tight_views(policy, scores)[0]))

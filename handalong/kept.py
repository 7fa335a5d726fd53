"""Means and sums that are the same for all obeying networks."""

from handalong.basics import is_tuple_of, product_sum
from handalong.collected import collection_mean, collection_total, copies
from handalong.errors import NoNetwork
from handalong.exact import null_rows, reduced_basis, solution, widened
from handalong.live import live_evidence, live_views
from handalong.means import greatest_mean, known_least, least_mean
from handalong.policies import checked_scores
from handalong.proofs import is_balanced, is_told
from handalong.ratios import added, compared, is_fraction, less, made
from handalong.transfers import MODE_PAIRS, crossings, is_transfer, sends


def mean_evidence(policy, scores):
    """The one mean of all obeying networks with a transfer that proves it, or two with unlike means."""
    worth = checked_scores(policy, scores)
    least, low, transfer = known_least(policy, worth)
    _, greatest, high, _ = greatest_mean(policy, worth)
    # If all means are the least one, a best transfer leaves every live view just that.
    return ("one", least, transfer) if least == greatest else ("two", low, high)


def is_mean_evidence(policy, scores, value):
    """Whether any value is a right answer of `mean_evidence`."""
    worth = checked_scores(policy, scores)
    live = live_views(policy)
    if not live:
        raise NoNetwork()
    if is_told(value, "one", 3):
        return is_fraction(value[1]) and leaves_just(policy, worth, live, value[2], value[1])
    if not is_told(value, "two", 3) or not is_balanced(policy, value[1]) or not is_balanced(policy, value[2]):
        return False
    return compared(collection_mean(policy, worth, value[1]), collection_mean(policy, worth, value[2])) < 0


def leaves_just(policy, worth, live, value, fraction):
    """Whether any value is a transfer that leaves each live view just a fraction."""
    if not is_transfer(policy.modes, value):
        return False
    return all([sends(value, view) == less((worth[policy.spot(view)], 1), fraction) for view in live])


def pinned_modes(policy):
    """The pairs of the modes that have the same share of the sites in all obeying networks, and this share."""
    found = []
    for mode in range(policy.modes):
        answer = mean_evidence(policy, [int(view[0] == mode) for view in policy.views])
        if answer[0] == "one":
            found.append((mode, answer[1]))
    return tuple(found)


def nought_evidence(policy, scores):
    """A transfer that proves that the sum is 0 on each obeying network, or a collection with another sum."""
    worth = checked_scores(policy, scores)
    least = least_mean(policy, worth)
    if least[0] == "none":
        return ("nought", least[1])
    greatest = greatest_mean(policy, worth)
    for answer in (least, greatest):
        if answer[1] != (0, 1):
            return ("network", answer[2])
    return ("nought", least[3])


def is_nought_evidence(policy, scores, value):
    """Whether any value is a right answer of `nought_evidence`."""
    worth = checked_scores(policy, scores)
    if is_told(value, "network", 2):
        return is_balanced(policy, value[1]) and collection_total(policy, worth, value[1]) != 0
    return is_told(value, "nought", 2) and leaves_just(policy, worth, live_views(policy), value[1], (0, 1))


def leading_views(policy):
    """The live views whose sending does not follow from that of the live views before them."""
    found = []
    basis = []
    for view in live_views(policy):
        wider = widened(basis, crossings(policy.modes, view))
        if len(wider) > len(basis):
            found.append(view)
        basis = wider
    return tuple(found)


def plain_scores(policy, scores):
    """What each live view is left if each leading one is left 0; 0 for dead ones."""
    worth = checked_scores(policy, scores)
    live = live_views(policy)
    rows = [crossings(policy.modes, view) + (worth[policy.spot(view)],) for view in leading_views(policy)]
    transfer = solution(rows, len(MODE_PAIRS[policy.modes]))
    lefts_told = [less((score, 1), sends(transfer, view)) for score, view in zip(worth, policy.views)]
    return tuple([left if view in live else (0, 1) for left, view in zip(lefts_told, policy.views)])


def same_sums(policy, one, other):
    """Whether two scores have equal sums on each obeying network."""
    first = checked_scores(policy, one)
    second = checked_scores(policy, other)
    return plain_scores(policy, first) == plain_scores(policy, second)


def mode_row(modes, view):
    """How many sites in each mode one site with a view is."""
    return tuple([int(view[0] == mode) for mode in range(modes)])


def law_rows(policy, views):
    """For each view the modes of its site, and behind these what it sends."""
    return [mode_row(policy.modes, view) + crossings(policy.modes, view) for view in views]


def mode_laws(policy):
    """The reduced basis of the weights of modes whose sum is 0 on each obeying network."""
    return weights_basis(policy.modes, law_rows(policy, live_views(policy)))


def weights_basis(modes, rows):
    """The reduced basis of the weights of modes that make, with some transfer, each row's product sum 0."""
    solutions = null_rows(rows, modes + len(MODE_PAIRS[modes]))
    basis = reduced_basis([row[:modes] for row in solutions])
    return tuple([tuple([made(number, row[place]) for number in row]) for place, row in basis])


def weights_evidence(policy, scores):
    """Weights of modes and a transfer that make the sum of the scores, or two collections that bar this."""
    worth = checked_scores(policy, scores)
    live = live_views(policy)
    numbers = [worth[policy.spot(view)] for view in live]
    rows = law_rows(policy, live)
    many = policy.modes + len(MODE_PAIRS[policy.modes])
    found = solution([row + (number,) for row, number in zip(rows, numbers)], many)
    if found is not None:
        return ("weights", found[:policy.modes], found[policy.modes:])
    sides = [[row[place] for row in rows] for place in range(many)]
    unlike = [change for change in null_rows(sides, len(live)) if product_sum(change, numbers) != 0]
    one, other = changed_pair(live_evidence(policy)[0], unlike[0])
    return ("two", one, other)


def changed_pair(collection, change):
    """Copies of a collection with each count changed by an integer, and the copies as they were."""
    many = 1
    for (_, count), number in zip(collection, change):
        many = max(many, 1 - number // count)
    plain = copies(collection, many)
    return (tuple([(view, count + number) for (view, count), number in zip(plain, change)]), plain)


def is_weights_evidence(policy, scores, value):
    """Whether any value is a right answer of `weights_evidence`."""
    worth = checked_scores(policy, scores)
    if is_told(value, "weights", 3):
        return shows_weights(policy, worth, value[1], value[2])
    if not is_told(value, "two", 3) or not is_balanced(policy, value[1]) or not is_balanced(policy, value[2]):
        return False
    _, one, other = value
    if collection_total(policy, worth, one) == collection_total(policy, worth, other):
        return False
    return all([mode_sites(one, mode) == mode_sites(other, mode) for mode in range(policy.modes)])


def mode_sites(collection, mode):
    """How many sites of a collection are in a mode."""
    return sum([count for view, count in collection if view[0] == mode])


def shows_weights(policy, worth, weights, transfer):
    """Whether any values are weights of the modes and a transfer that make the score of each live view."""
    if not is_tuple_of(weights, policy.modes) or not all([is_fraction(weight) for weight in weights]):
        return False
    if not is_transfer(policy.modes, transfer):
        return False
    live = live_views(policy)
    return all([added(weights[view[0]], sends(transfer, view)) == (worth[policy.spot(view)], 1) for view in live])

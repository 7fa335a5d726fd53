"""Clocks, which prove that sums are multiples of a number, and collections that prove that they are not."""

from handalong.basics import is_integer, is_tuple_of, product_sum
from handalong.building import is_good
from handalong.collected import collection_total
from handalong.errors import InvalidQuestion
from handalong.live import live_evidence, live_views
from handalong.policies import checked_scores
from handalong.proofs import is_balanced, is_told
from handalong.ratios import is_fraction, less, times
from handalong.transfers import crossing
from handalong.wholes import met, staircase

MOST_ASKED = 1000000


def check_number(value, at):
    """Refuses any value, the argument with an index, that is no integer from 1 to the greatest that may be asked."""
    if not is_integer(value) or not 1 <= value <= MOST_ASKED:
        raise InvalidQuestion(at)


def clock_pairs(modes):
    """The pairs a <= b of so many modes, ascending."""
    return tuple([(a, b) for a in range(modes) for b in range(a, modes)])


def clock_row(modes, view):
    """How often a view gives each fraction of a clock to its neighbours, less how often it gets it."""
    return tuple([crossing(view[0], view, a, b) for a, b in clock_pairs(modes)])


def clock_rows(policy, views):
    """The rows of views, and behind them one for each mode: twice its own fraction."""
    pairs = clock_pairs(policy.modes)
    doubles = [tuple([2 * int(pair == (mode, mode)) for pair in pairs]) for mode in range(policy.modes)]
    return [clock_row(policy.modes, view) for view in views] + doubles


def is_multiple(fraction, m):
    """Whether a fraction is an integer and a multiple of a number from 1 on."""
    return fraction[1] == 1 and fraction[0] % m == 0


def given(clock, row):
    """The sum of so many times each fraction of a clock."""
    amount = (0, 1)
    for often, part_given in zip(row, clock):
        if often != 0:
            top, bottom = times((often, 1), part_given)
            amount = less(amount, (-top, bottom))
    return amount


def fits(policy, worth, m, value):
    """Whether any value is a clock of m that fits the scores."""
    pairs = clock_pairs(policy.modes)
    if not is_tuple_of(value, len(pairs)) or not all([is_fraction(entry) for entry in value]):
        return False
    live = live_views(policy)
    numbers = live_scores(policy, worth, live) + [0] * policy.modes
    amounts = [given(value, row) for row in clock_rows(policy, live)]
    return all([is_multiple(less((number, 1), amount), m) for number, amount in zip(numbers, amounts)])


def live_scores(policy, worth, live):
    """The scores of the live views."""
    return [worth[policy.spot(view)] for view in live]


def is_clock(policy, scores, m, value):
    """Whether any value is a clock of m that fits the scores."""
    worth = checked_scores(policy, scores)
    check_number(m, 2)
    return fits(policy, worth, m, value)


def clock_steps(policy, live):
    """The pair (steps, changes) of the clock rows of the live views, multiples of theirs alone.

    Collections of networks differ by integer multiples of the changes, and all of these are
    such differences: the half-links from each mode to itself are even in number.
    """
    steps, rest = staircase(clock_rows(policy, live))
    many = len(live)
    return ([(row, multiples[:many]) for row, multiples in steps], [multiples[:many] for multiples in rest])


def fitting_clock(policy, steps, numbers):
    """A clock of each m of which all sums are multiples, for the scores of the live views."""
    start = [(0, 1) for _ in clock_pairs(policy.modes)]
    return met(steps, [(product_sum(numbers, multiples), 1) for _, multiples in steps], start)


def clock_evidence(policy, scores, m):
    """Some clock of m that fits the scores, or a collection of a network whose sum is no multiple of m."""
    worth = checked_scores(policy, scores)
    check_number(m, 2)
    live = live_views(policy)
    numbers = live_scores(policy, worth, live)
    steps, changes = clock_steps(policy, live)
    odd = [change for change in changes if product_sum(numbers, change) % m != 0]
    if odd:
        return ("collection", odd_collection(policy, numbers, m, odd[0]))
    return ("clock", fitting_clock(policy, steps, numbers))


def odd_collection(policy, numbers, m, change):
    """Some collection of a network whose sum is no multiple of m, if a change makes none."""
    base = live_evidence(policy)[0]
    many = 0
    while True:
        for row in changed_counts(base, many, change):
            found = network_counts(base, row)
            if found is not None and product_sum(numbers, row) % m != 0:
                return found
        many += 1


def changed_counts(base, many, change):
    """The counts of so many copies of a collection, and these changed."""
    plain = [many * count for _, count in base]
    return (plain, [count + number for count, number in zip(plain, change)])


def network_counts(base, row):
    """The collection of the views of a balanced one with other counts, None if no network has it."""
    if min(row) < 0 or max(row) == 0:
        return None
    collection = tuple([(view, number) for (view, _), number in zip(base, row) if number > 0])
    return collection if is_good(collection, 1) else None


def is_network_collection(policy, value):
    """Whether any value is the collection of a network that obeys the policy."""
    return is_balanced(policy, value) and is_good(value, 1)


def is_clock_evidence(policy, scores, m, value):
    """Whether any value is a right answer of `clock_evidence`."""
    worth = checked_scores(policy, scores)
    check_number(m, 2)
    if is_told(value, "clock", 2):
        return fits(policy, worth, m, value[1])
    if not is_told(value, "collection", 2) or not is_network_collection(policy, value[1]):
        return False
    return collection_total(policy, worth, value[1]) % m != 0

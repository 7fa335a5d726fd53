"""Collections peeled into elements, means of elements, and policies put together."""

from handalong.basics import is_sequence, is_tuple_of
from handalong.collected import collection_mean
from handalong.elementary import all_elements, is_element, is_within, lot_of
from handalong.errors import InvalidCollection, InvalidQuestion
from handalong.policies import Policy, checked_scores
from handalong.proofs import is_balanced
from handalong.ratios import added, compared, is_fraction, less, made, times


def check_balanced(policy, value):
    """Refuses any value that is no balanced collection of allowed views."""
    if not is_balanced(policy, value):
        raise InvalidCollection(0)


def peel(policy, collection):
    """The elements that are taken away from a balanced collection, the first ones first, with how often."""
    check_balanced(policy, collection)
    left = {view: (count, 1) for view, count in collection}
    found = []
    # What is taken as often as it goes cannot be taken again, as one of its views is gone.
    for element in all_elements(policy):
        often = most_times(left, element)
        if often[0] > 0:
            found.append((element, often))
            for view, count in element:
                left[view] = less(left[view], times((count, 1), often))
    return tuple(found)


def most_times(left, element):
    """How often an element can be taken away from what is left of the views, a fraction."""
    often = None
    for view, count in element:
        part_left = times(left.get(view, (0, 1)), made(1, count))
        if often is None or compared(part_left, often) < 0:
            often = part_left
    return often


def is_peeling(policy, collection, value):
    """Whether any value is a sequence of unlike elements with fractions that add up to a balanced collection."""
    check_balanced(policy, collection)
    if not is_sequence(value) or not all([is_peel(policy, entry) for entry in value]):
        return False
    told = [element for element, _ in value]
    if any([element in told[:at] for at, element in enumerate(told)]):
        return False
    amounts = {}
    for element, often in value:
        for view, count in element:
            amounts[view] = added(amounts.get(view, (0, 1)), times((count, 1), often))
    return amounts == {view: (count, 1) for view, count in collection}


def is_peel(policy, value):
    """Whether any value is a pair of an element and a fraction above 0."""
    if not is_tuple_of(value, 2) or not is_element(policy, value[0]):
        return False
    return is_fraction(value[1]) and value[1][0] > 0


def element_means(policy, scores):
    """The mean of each element, in their order."""
    worth = checked_scores(policy, scores)
    return tuple([collection_mean(policy, worth, element) for element in all_elements(policy)])


def best_elements(policy, scores):
    """The elements of the least mean."""
    worth = checked_scores(policy, scores)
    told = all_elements(policy)
    means = element_means(policy, worth)
    return tuple([element for element, mean in zip(told, means) if is_least(mean, means)])


def is_least(fraction, fractions):
    """Whether no one of the fractions is less than the first one."""
    return all([compared(fraction, other) <= 0 for other in fractions])


def joined_policy(one, other):
    """The policy with the views of either one."""
    if one.modes != other.modes:
        raise InvalidQuestion(1)
    return Policy(one.modes, one.views + tuple([view for view in other.views if one.spot(view) is None]))


def mixed_elements(one, other):
    """The elements of the joined policy that are elements of neither."""
    told = all_elements(joined_policy(one, other))
    return tuple([element for element in told if not has_all(one, element) and not has_all(other, element)])


def has_all(policy, collection):
    """Whether a policy allows all views of a collection."""
    return is_within(lot_of(collection), policy.views)


def mixing_scores(one, other):
    """Scores by which the joined policy has a lesser mean than each one, or None."""
    mixed = mixed_elements(one, other)
    if not mixed:
        return None
    first = lot_of(mixed[0])
    return tuple([int(view not in first) for view in joined_policy(one, other).views])

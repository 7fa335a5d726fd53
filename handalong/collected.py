"""Collections: how many sites have each view."""

from handalong.basics import is_integer, is_sequence, is_tuple_of
from handalong.errors import InvalidCollection, NotObeyed
from handalong.policies import checked_scores
from handalong.ratios import made
from handalong.views import MOST_MODES, is_view, seen


def is_entry(value):
    """Whether any value is a pair of a view and a count from 1 on."""
    return is_tuple_of(value, 2) and is_view(value[0]) and is_integer(value[1]) and value[1] >= 1


def is_collection(value):
    """Whether any value is a collection."""
    if not isinstance(value, tuple) or len(value) == 0 or not all([is_entry(entry) for entry in value]):
        return False
    return all([value[at - 1][0] < value[at][0] for at in range(1, len(value))])


def checked_collection(value):
    """The collection with the pairs of any value, which may stand in any order."""
    if not is_sequence(value) or len(value) == 0:
        raise InvalidCollection(0)
    known = {}
    for at, entry in enumerate(value):
        if not is_entry(entry) or entry[0] in known:
            raise InvalidCollection(at)
        known[entry[0]] = True
    return tuple(sorted(value))


def collected(views):
    """The collection of a sequence of at least one view."""
    counts = {}
    for view in views:
        counts[view] = counts.get(view, 0) + 1
    return tuple(sorted(counts.items()))


def sites(collection):
    """How many sites a collection counts."""
    return sum([count for _, count in collection])


def copies(collection, many):
    """The collection with each count so many times as great."""
    return tuple([(view, count * many) for view, count in collection])


def joined(one, other):
    """The collection with the counts of two added."""
    counts = {view: count for view, count in one}
    for view, count in other:
        counts[view] = counts.get(view, 0) + count
    return tuple(sorted(counts.items()))


def half_links(collection, a, b):
    """How often a site in mode a has a neighbour in mode b."""
    return sum([count * seen(view, b) for view, count in collection if view[0] == a])


def unbalanced(collection):
    """The first pair of modes that do not see each other equally often, or None."""
    for a in range(MOST_MODES):
        for b in range(a + 1, MOST_MODES):
            if half_links(collection, a, b) != half_links(collection, b, a):
                return (a, b)
    return None


def network_collection(network):
    """The collection of the views of a network."""
    return collected(network.site_views())


def collection_total(policy, scores, collection):
    """The sum of the scores of the views of all sites that are counted."""
    worth = checked_scores(policy, scores)
    for at, (view, _) in enumerate(collection):
        if policy.spot(view) is None:
            raise NotObeyed(at)
    return sum([worth[policy.spot(view)] * count for view, count in collection])


def collection_mean(policy, scores, collection):
    """The mean score of all sites that are counted, a fraction."""
    return made(collection_total(policy, scores, collection), sites(collection))

"""Common covers of two networks, rows that show them apart, and standings on one network."""

from math import lcm

from handalong.basics import common_divisor, is_integer, is_tuple_of
from handalong.building import seats
from handalong.collected import copies, half_links
from handalong.drafts import draft_of
from handalong.errors import InvalidQuestion
from handalong.laid import draft_ends, ends_of, laid_over
from handalong.means import known_least
from handalong.networks import Network, pieces, side_by_side
from handalong.policies import Policy, checked_scores
from handalong.views import MOST_MODES, MOST_NEIGHBOURS, all_views, made_view


def numbered(keys):
    """For each key the number of the unlike keys ahead of its first place."""
    known = {}
    for key in keys:
        known.setdefault(key, len(known))
    return tuple([known[key] for key in keys])


def first_row(network, modes):
    """The first parting of the sites: by their modes, or none."""
    return numbered(network.modes) if modes else (0,) * len(network.modes)


def next_row(network, row):
    """The parting behind one: by its parts and by those of the neighbours."""
    near = [sorted([row[other] for other in network.neighbours(site)]) for site in range(len(row))]
    return numbered([(part, tuple(others)) for part, others in zip(row, near)])


def parting_rows(network, modes):
    """The partings, each made from the one before, until the parts stay the same."""
    rows = [first_row(network, modes)]
    while True:
        row = next_row(network, rows[-1])
        if row == rows[-1]:
            return rows
        rows.append(row)


def classes(network, *, modes=True):
    """The number of its class for each site."""
    return parting_rows(network, modes)[-1]


def check_whole(one, other):
    """Refuses two networks of which one falls apart."""
    for at, network in enumerate((one, other)):
        if len(pieces(network)) > 1:
            raise InvalidQuestion(at)


def parts_of_both(row, many):
    """Whether some part of a parting has both some of the first `many` sites and some of the others."""
    return any([part in row[:many] for part in row[many:]])


def apart(one, other, *, modes=True):
    """Rows that show that two networks have no common cover, None if they have one."""
    check_whole(one, other)
    found = []
    for row in parting_rows(side_by_side((one, other)), modes):
        found.append(row)
        if not parts_of_both(row, len(one.modes)):
            return tuple(found)
    return None


def shows_apart(one, other, value, *, modes=True):
    """Whether any value is rows that show that two networks have no common cover."""
    check_whole(one, other)
    both = side_by_side((one, other))
    if not isinstance(value, tuple) or len(value) == 0 or not all([is_row(both, row) for row in value]):
        return False
    told = both.modes if modes else (0,) * len(both.modes)
    if not is_coarser(value[0], told):
        return False
    for before, row in zip(value, value[1:]):
        counts = [tuple(sorted([before[near] for near in both.neighbours(site)])) for site in range(len(row))]
        if not is_coarser(row, list(zip(before, counts))):
            return False
    return not parts_of_both(value[-1], len(one.modes))


def is_row(network, value):
    """Whether any value is a tuple of an integer for each site."""
    return is_tuple_of(value, len(network.modes)) and all([is_integer(number) for number in value])


def is_coarser(row, keys):
    """Whether sites with equal keys always have equal integers in a row."""
    known = {}
    return all([known.setdefault(key, number) == number for key, number in zip(keys, row)])


def common_cover(one, other, *, modes=True):
    """Some network that lies over both, with the sites that its sites are over, or None."""
    check_whole(one, other)
    row = classes(side_by_side((one, other)), modes=modes)
    many = len(one.modes)
    if not parts_of_both(row, many):
        return None
    kinds, other_kinds = row[:many], row[many:]
    start = (0, other_kinds.index(kinds[0]), 0)
    ends = ends_of(one, kinds)
    found, links = laid_over(ends, ends_of(other, other_kinds), kinds, shares_of(kinds, ends), [start])
    network = Network([one.modes[site] for site, _, _ in found], links)
    return (network, tuple([site for site, _, _ in found]), tuple([site for _, site, _ in found]))


def shares_of(kinds, ends):
    """How many sites are over each pair of sites of a class, so that links of all kinds come out even."""
    counts = [kinds.count(kind) for kind in kinds]
    common = common_divisor(counts)
    whole = 1
    for count, near in zip(counts, ends):
        for row in near.values():
            whole = lcm(whole, max(1, len(row)) * (count // common))
    return [whole // (count // common) for count in counts]


def standing_cover(network, policy, scores):
    """Some obeying network over another one, but for its modes, with the least mean for its number of links."""
    degree = len(network.neighbours(0))
    if any([len(network.neighbours(site)) != degree for site in range(len(network.modes))]):
        raise InvalidQuestion(0)
    worth = checked_scores(policy, scores)
    views = [view for view in policy.views if len(view[1]) == degree]
    _, collection, _ = known_least(Policy(policy.modes, views), [worth[policy.spot(view)] for view in views])
    if any([half_links(collection, mode, mode) % 2 == 1 for mode in range(policy.modes)]):
        collection = copies(collection, 2)
    draft = draft_of(seats(collection))
    kinds = [0] * len(network.modes)
    starts = [(piece[0], 0, 0) for piece in pieces(network)]
    shares = [max(1, degree)] * len(kinds)
    found, links = laid_over(ends_of(network, kinds), draft_ends(draft), kinds, shares, starts)
    return (Network([draft[0][site] for _, site, _ in found], links), tuple([site for site, _, _ in found]))


def joint(one, other):
    """The policy whose modes stand for pairs of modes, one of each policy, both of which allow what they see."""
    modes = one.modes * other.modes
    if modes > MOST_MODES:
        raise InvalidQuestion(1)
    views = [view for degree in range(MOST_NEIGHBOURS + 1) for view in all_views(modes, degree)]
    allowed = []
    for view in views:
        first, second = view_parts(view, other.modes)
        if one.spot(first) is not None and other.spot(second) is not None:
            allowed.append(view)
    return Policy(modes, allowed)


def view_parts(view, many):
    """The two views that one stands for, with a // many and with a modulo many for each mode a."""
    mode, neighbours = view
    first = made_view(mode // many, [other // many for other in neighbours])
    return (first, made_view(mode % many, [other % many for other in neighbours]))


def standings(network, many):
    """The two networks that one stands for, with a // many and with a modulo many for each mode a."""
    first = [mode // many for mode in network.modes]
    return (Network(first, network.links), Network([mode % many for mode in network.modes], network.links))

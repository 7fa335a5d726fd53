"""Which links can lead out of a section."""

from handalong.basics import is_integer, is_tuple_of
from handalong.clocks import clock_pairs, clock_steps, fits, given, is_multiple
from handalong.collected import half_links
from handalong.errors import InvalidQuestion, NoNetwork
from handalong.exact import first_place
from handalong.live import live_evidence, live_views
from handalong.proofs import is_allowed, is_told
from handalong.ratios import made
from handalong.regions import check_ends
from handalong.views import is_mode
from handalong.wholes import lessened, met


def kinds_of(live):
    """The pairs (mode, mode of a neighbour) of views."""
    return tuple(sorted({(view[0], mode): True for view in live for mode in view[1]}))


def link_kinds(policy):
    """The pairs (a, b) such that a live view of mode a has a neighbour in mode b."""
    return kinds_of(live_views(policy))


def check_cut(live, value):
    """Refuses any value that is no plan of a cut."""
    if not isinstance(value, tuple) or not all([is_kind_count(live, entry) for entry in value]):
        raise InvalidQuestion(1)
    if not all([value[at - 1][0] < value[at][0] for at in range(1, len(value))]):
        raise InvalidQuestion(1)


def is_kind_count(live, value):
    """Whether any value is a pair of a kind of links of live views and a number from 1 on."""
    if not is_tuple_of(value, 2) or not is_integer(value[1]) or value[1] < 1:
        return False
    kind = value[0]
    return is_tuple_of(kind, 2) and is_mode(kind[0]) and is_mode(kind[1]) and kind in kinds_of(live)


def known_live_cut(policy, cut):
    """The live views, of which there must be some, for any value that must be a plan of a cut."""
    live = live_views(policy)
    if not live:
        raise NoNetwork()
    check_cut(live, cut)
    return live


def cut_row(modes, cut):
    """For each pair a <= b how many more links of a cut are of the kind (a, b) than of (b, a)."""
    counts = {kind: many for kind, many in cut}
    return [counts.get((a, b), 0) - (counts.get((b, a), 0) if a != b else 0) for a, b in clock_pairs(modes)]


def change_or_clock(steps, row):
    """The pair of counts of the live views that leave a row of half-links over, and None; or of None and a clock."""
    rest = row
    change = [0 for _ in steps[0][1]]
    nought = [(0, 1) for _ in row]
    for at, (step, multiples) in enumerate(steps):
        lead = first_place(step)
        often = rest[lead] // step[lead]
        if often * step[lead] != rest[lead]:
            targets = [(int(place == at), 1) for place in range(len(steps))]
            return (None, met(steps, targets, nought))
        rest = lessened(rest, step, often)
        change = [one + often * other for one, other in zip(change, multiples)]
    place = first_place(rest)
    if place is None:
        return (change, None)
    # No step tells of this place: half of what is left over there is no integer.
    nought[place] = made(1, 2 * rest[place])
    return (None, met(steps, [(0, 1) for _ in steps], nought))


def cut_evidence(policy, cut):
    """A collection of some section with a cut, or an idle clock that proves that there is none."""
    live = known_live_cut(policy, cut)
    steps, _ = clock_steps(policy, live)
    change, clock = change_or_clock(steps, cut_row(policy.modes, cut))
    if change is None:
        return ("clock", clock)
    counts = [count for _, count in live_evidence(policy)[0]]
    numbers = change
    # An even number of copies more leaves the cut as it is.
    while min(numbers) < 0 or max(numbers) == 0:
        numbers = [number + 2 * count for number, count in zip(numbers, counts)]
    return ("section", tuple([(view, number) for view, number in zip(live, numbers) if number > 0]))


def is_cut_evidence(policy, cut, value):
    """Whether any value is a right answer of `cut_evidence`."""
    live = known_live_cut(policy, cut)
    row = cut_row(policy.modes, cut)
    if is_told(value, "clock", 2):
        nought = [0 for _ in policy.views]
        return fits(policy, nought, 1, value[1]) and not is_multiple(given(value[1], row), 1)
    if not is_told(value, "section", 2) or not is_allowed(policy, value[1]):
        return False
    collection = value[1]
    if not all([view in live for view, _ in collection]):
        return False
    return all([leaves_over(collection, pair, many) for pair, many in zip(clock_pairs(policy.modes), row)])


def leaves_over(collection, pair, many):
    """Whether so many links of a kind more than back can lead out of a section with these views."""
    a, b = pair
    if a == b:
        return (half_links(collection, a, a) - many) % 2 == 0
    return half_links(collection, a, b) - half_links(collection, b, a) == many


def bridges(policy):
    """The kinds of links without which some connected obeying network is not connected."""
    check_ends(policy)
    live = live_views(policy)
    steps, _ = clock_steps(policy, live)
    kinds = [(a, b) for a, b in kinds_of(live) if a <= b]
    rows = [cut_row(policy.modes, ((kind, 1),)) for kind in kinds]
    return tuple([kind for kind, row in zip(kinds, rows) if change_or_clock(steps, row)[0] is not None])

"""Elements, the balanced collections without smaller ones within, and lots of views."""

from itertools import combinations

from handalong.basics import common_divisor, is_sequence
from handalong.errors import InvalidView
from handalong.exact import null_rows, reduced_basis
from handalong.live import live_views
from handalong.policies import Policy
from handalong.proofs import is_balanced
from handalong.transfers import MODE_PAIRS, crossings


def checked_lot(policy, lot):
    """Any value, a sequence of different allowed views, as a lot."""
    if not is_sequence(lot):
        raise InvalidView(0)
    for at, view in enumerate(lot):
        if policy.spot(view) is None or view in lot[:at]:
            raise InvalidView(at)
    return tuple(sorted(lot))


def lot_of(collection):
    """The views of a collection."""
    return tuple([view for view, _ in collection])


def is_within(lot, other):
    """Whether all things of the first are among the others."""
    return all([view in other for view in lot])


def all_elements(policy):
    """All balanced collections without divisor that have no other one within their lots."""
    many = len(policy.views)
    rows = [crossings(policy.modes, view) for view in policy.views]
    known = []
    found = []
    for size in range(1, len(MODE_PAIRS[policy.modes]) + 2):
        for places in combinations(range(many), size):
            if not any([is_within(other, places) for other in known]):
                counts = sole_counts([rows[at] for at in places])
                if counts is not None:
                    known.append(places)
                    found.append(tuple([(policy.views[at], count) for at, count in zip(places, counts)]))
    return tuple(sorted(found))


def sole_counts(rows):
    """The counts above 0 of rows that make 0 together, without a divisor, if there are just these, or None."""
    sides = [[row[at] for row in rows] for at in range(len(rows[0]))]
    nulls = null_rows(sides, len(rows))
    return nulls[0] if len(nulls) == 1 and min(nulls[0]) > 0 else None


def is_element(policy, value):
    """Whether any value is an element."""
    if not is_balanced(policy, value) or common_divisor([count for _, count in value]) != 1:
        return False
    # All balanced amounts of its views are multiples of it exactly if all but one send independently.
    return len(reduced_basis([crossings(policy.modes, view) for view, _ in value])) == len(value) - 1


def elements_within(policy, lot):
    """The elements whose views are all in a lot."""
    return all_elements(Policy(policy.modes, checked_lot(policy, lot)))


def shown_part(policy, lot):
    """The greatest shown lot within a lot."""
    return live_views(Policy(policy.modes, checked_lot(policy, lot)))


def is_shown(policy, lot):
    """Whether some network has just the views of a lot."""
    views = checked_lot(policy, lot)
    return len(views) > 0 and shown_part(policy, views) == views


def shown_lots(policy):
    """All lots of which some network has just the views."""
    found = {}
    for collection in all_elements(policy):
        lot = lot_of(collection)
        others = [()] + list(found)
        for other in others:
            found[tuple(sorted({view: True for view in lot + other}))] = True
    return tuple(sorted(found))

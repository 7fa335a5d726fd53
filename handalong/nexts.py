"""Which views sites have behind a beat."""

from handalong.errors import Refused
from handalong.live import live_views
from handalong.policies import Policy
from handalong.regions import can_be_linked
from handalong.rules import Rule
from handalong.views import made_view


def told_around(rule, live, view):
    """For each neighbour of a view the modes that live views in its place are told."""
    return [told_at(rule, live, view, mode) for mode in view[1]]


def told_at(rule, live, view, mode):
    """The modes that live views in a mode are told that can be linked with a view."""
    return sorted({rule.new_mode(other): True for other in fitting(live, view, mode)})


def fitting(live, view, mode):
    """The live views in a mode that can be linked with a view."""
    return [other for other in live if other[0] == mode and can_be_linked(view, other)]


def next_from(rule, view, begun, choices):
    """The next views of a view whose first neighbours are told some modes, the others one of their choices."""
    rows = [begun]
    for modes in choices[len(begun):]:
        rows = [row + (mode,) for row in rows for mode in modes]
    return [made_view(rule.new_mode(view), row) for row in rows]


def next_views(rule):
    """All views that sites can have behind a beat."""
    live = live_views(rule.policy)
    found = {}
    for view in live:
        for other in next_from(rule, view, (), told_around(rule, live, view)):
            found[other] = True
    return tuple(sorted(found))


def can_escape(rule, view, begun, choices):
    """Whether some next view of a view whose first neighbours are told some modes is not allowed."""
    return any([rule.policy.spot(other) is None for other in next_from(rule, view, begun, choices)])


def escape(rule):
    """The first live view and surrounding whose next view is not allowed, or None."""
    live = live_views(rule.policy)
    for view in live:
        choices = told_around(rule, live, view)
        if can_escape(rule, view, (), choices):
            return (view, first_escape(rule, live, view, choices))
    return None


def first_escape(rule, live, view, choices):
    """The first surrounding of a view whose next view is not allowed, if there is one."""
    surrounding = ()
    begun = ()
    for mode in view[1]:
        others = fitting(live, view, mode)
        leading = [other for other in others if can_escape(rule, view, begun + (rule.new_mode(other),), choices)]
        surrounding = surrounding + (leading[0],)
        begun = begun + (rule.new_mode(leading[0]),)
    return surrounding


def chain(rule):
    """The policies of what networks can be behind more and more beats, until there is no further one."""
    if escape(rule) is not None:
        raise Refused(0)
    found = [rule.policy]
    last = rule
    while True:
        behind = Policy(rule.policy.modes, next_views(last))
        if behind == found[-1]:
            return tuple(found)
        found.append(behind)
        last = Rule(behind, [rule.new_mode(view) for view in behind.views])

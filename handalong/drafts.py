"""Drafts: networks whose sites may be linked several times and to themselves."""

from handalong.building import KINDS, places_of
from handalong.collected import collected, half_links, unbalanced
from handalong.errors import Refused
from handalong.networks import Network
from handalong.views import MOST_MODES, made_view, seen


def draft_views(draft):
    """The views of the sites of a draft, in their order."""
    modes, links = draft
    near = [[] for _ in modes]
    for one, other in links:
        near[one].append(modes[other])
        near[other].append(modes[one])
    return tuple([made_view(mode, near[at]) for at, mode in enumerate(modes)])


def draft_of(plan):
    """Some draft whose sites have the views of a plan."""
    counted = collected(plan)
    odd = [mode for mode in range(MOST_MODES) if half_links(counted, mode, mode) % 2 == 1]
    if odd or unbalanced(counted) is not None:
        raise Refused(0)
    links = []
    for a, b in KINDS:
        links.extend(paired_ends(plan, a, b))
    return (tuple([view[0] for view in plan]), tuple(sorted(links)))


def paired_ends(plan, a, b):
    """The links of the kind (a, b) for which open ends are paired in the order of the sites."""
    ends = open_ends(plan, a, b)
    if a == b:
        return list(zip(ends[::2], ends[1::2]))
    return [(min(one, other), max(one, other)) for one, other in zip(ends, open_ends(plan, b, a))]


def open_ends(plan, a, b):
    """Each site in mode a as often as it wants a neighbour in mode b."""
    return [at for at in places_of(plan, a) for _ in range(seen(plan[at], b))]


def link_counts(draft):
    """How often each pair of sites stands among the links of a draft."""
    counts = {}
    for one, other in draft[1]:
        counts[(one, other)] = counts.get((one, other), 0) + 1
    return counts


def copies_needed(draft):
    """How many copies the untangled network of a draft has."""
    needed = 1
    for (one, other), many in link_counts(draft).items():
        needed = max(needed, 2 * many + 1 if one == other else many)
    return needed


def untangled(draft):
    """The network of copies of a draft in which no site is linked to itself or twice to another one."""
    modes = list(draft[0])
    many = copies_needed(draft)
    links = []
    for (one, other), times_linked in link_counts(draft).items():
        # A shift by 0 would link a copy of a site to itself.
        first = 1 if one == other else 0
        for shift in range(first, first + times_linked):
            links.extend(shifted_links(one, other, shift, many, len(modes)))
    return Network(modes * many, links)


def shifted_links(one, other, shift, many, size):
    """The links from each of so many copies of a site to the copy of another one that is so much further."""
    return [(one + size * at, other + size * ((at + shift) % many)) for at in range(many)]

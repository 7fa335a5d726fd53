"""Trees that obey a policy, the branches they consist of, and trees that are as long as one likes."""

from handalong.basics import is_number, is_sequence, is_tuple_of
from handalong.errors import InvalidQuestion, InvalidView
from handalong.networks import Network, pieces


def is_tree(network):
    """Whether a network hangs together and has one link less than sites."""
    return len(network.links) == len(network.modes) - 1 and len(pieces(network)) == 1


def left_out(view, modes):
    """The neighbours of a view but for some of these modes, each once; None if it has not all of them."""
    rest = list(view[1])
    for mode in modes:
        if mode not in rest:
            return None
        rest.remove(mode)
    return rest


def branch_views(policy):
    """For each pair (a, b) for which there is a branch: the view of the root of a lowest one."""
    found = {}
    while True:
        ready = {}
        for view in policy.views:
            for link in [(view[0], mode) for mode in view[1]]:
                if link not in found and is_ready(found, link, view):
                    ready.setdefault(link, view)
        if not ready:
            return found
        for link, view in ready.items():
            found[link] = view


def tree_views(policy):
    """The allowed views that some obeying tree has."""
    branches = branch_views(policy)
    return tuple([view for view in policy.views if all([(other, view[0]) in branches for other in view[1]])])


def tree_links(policy):
    """The pairs of modes that are linked in some obeying tree."""
    return tuple(sorted(lowest_choices(policy)))


def lowest_choices(policy):
    """A dict with a choice for each tree link, by which the branches are as low as possible."""
    branches = branch_views(policy)
    return {(a, b): view for (a, b), view in branches.items() if (b, a) in branches}


def growing_order(table):
    """The links of a dict of choices, each behind those of what grows on it; None if some branch never ends."""
    order = []
    while len(order) < len(table):
        ready = [link for link, view in table.items() if link not in order and is_ready(order, link, view)]
        if not ready:
            return None
        order.extend(ready)
    return order


def is_ready(known, link, view):
    """Whether all that grows on the root of a branch with a view is known."""
    return all([(other, link[0]) in known for other in left_out(view, [link[1]])])


def table_of(choices):
    """Choices as a dict by links."""
    return {(a, b): view for a, b, view in choices}


def choices_of(table):
    """A dict by links as choices."""
    return tuple(sorted([(a, b, view) for (a, b), view in table.items()]))


def is_choices(policy, value):
    """Whether any value is choices of a policy."""
    links = tree_links(policy)
    if not is_tuple_of(value, len(links)):
        return False
    views = tree_views(policy)
    if not all([is_choice(policy, views, link, entry) for link, entry in zip(links, value)]):
        return False
    return growing_order(table_of(value)) is not None


def is_choice(policy, views, link, value):
    """Whether any value is a choice for a tree link."""
    if not is_tuple_of(value, 3) or not is_number(value[0]) or not is_number(value[1]) or value[:2] != link:
        return False
    view = value[2]
    return is_tree_view(policy, views, view) and view[0] == link[0] and link[1] in view[1]


def is_tree_view(policy, views, value):
    """Whether any value is one of the tree views of a policy."""
    return policy.spot(value) is not None and value in views


def is_road(policy, value):
    """Whether any value is a road."""
    if not is_sequence(value) or len(value) == 0:
        return False
    views = tree_views(policy)
    return all([is_tree_view(policy, views, view) for view in value]) and None not in beside(value)


def beside(road):
    """For each view of a road the modes of its neighbours beside the road; None if it does not see those on it."""
    many = len(road)
    return [left_out(view, [road[at - 1][0], road[(at + 1) % many][0]]) for at, view in enumerate(road)]


def check_choices(policy, choices, at):
    """Refuses any value, the argument with an index, that is no choices."""
    if not is_choices(policy, choices):
        raise InvalidQuestion(at)


def hung(modes, links, ends, choices):
    """The network with branches that grow by choices on ends, pairs (site, mode of the neighbour that it misses)."""
    table = table_of(choices)
    all_modes, all_links, waiting = list(modes), list(links), list(ends)
    while waiting:
        site, mode = waiting.pop()
        root = len(all_modes)
        all_links.append((site, root))
        all_modes.append(mode)
        kept = all_modes[site]
        waiting.extend([(root, other) for other in left_out(table[(mode, kept)], [kept])])
    return Network(all_modes, all_links)


def grown(policy, choices, view):
    """Some tree whose site 0 has a view, with branches that grow by choices."""
    check_choices(policy, choices, 1)
    if not is_tree_view(policy, tree_views(policy), view):
        raise InvalidView(0)
    return hung([view[0]], [], [(0, mode) for mode in view[1]], choices)


def pumped(policy, choices, road, times):
    """Some tree along which the views of a road stand in a row, so many times, with branches that grow by choices."""
    check_choices(policy, choices, 1)
    if not is_road(policy, road):
        raise InvalidQuestion(2)
    many = len(road) * times
    ends = [(0, road[-1][0]), (many - 1, road[0][0])]
    rows = beside(road)
    for site in range(many):
        ends.extend([(site, mode) for mode in rows[site % len(road)]])
    modes = [view[0] for _ in range(times) for view in road]
    return hung(modes, [(site, site + 1) for site in range(many - 1)], ends, choices)

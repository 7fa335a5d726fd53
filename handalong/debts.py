"""Debts of trees: by how much their scores fall short of a limit for each site, or exceed it."""

from handalong.basics import is_integer, is_number, is_tuple_of
from handalong.errors import NoNetwork
from handalong.margins import costs_above
from handalong.policies import checked_scores
from handalong.proofs import is_told
from handalong.ratios import added, compared, is_fraction, less, made
from handalong.trees import (beside, check_choices, choices_of, growing_order, grown, is_choices, is_road, left_out,
                             lowest_choices, table_of, tree_links, tree_views)


def table_debts(policy, costs, table):
    """The cost of each branch that grows by a dict of choices, a dict by tree links."""
    debts = {}
    for link in growing_order(table):
        debts[link] = around(policy, costs, debts, table[link], [link[1]])
    return debts


def around(policy, costs, debts, view, out):
    """The cost of a site with a view and of the branches on it, but for those in some modes."""
    return costs[policy.spot(view)] + sum([debts[(mode, view[0])] for mode in left_out(view, out)])


def road_cost(policy, costs, debts, road):
    """The cost of the sites of a road, once, and of the branches beside it."""
    own = sum([costs[policy.spot(view)] for view in road])
    return own + sum([debts[(mode, view[0])] for view, row in zip(road, beside(road)) for mode in row])


def cheapest(policy, costs):
    """The triple (table, debts, road): a dict of choices, the costs of its branches, and a road of a cost below 0.

    The road is None if there is none; then the branches are as cheap as any.
    """
    views = tree_views(policy)
    table = lowest_choices(policy)
    while True:
        debts = table_debts(policy, costs, table)
        better = better_choice(policy, costs, views, debts)
        if better is None:
            return (table, debts, None)
        link, view = better
        road = road_back(table, link, view)
        if road is not None:
            return (table, debts, road)
        table = {other: view if other == link else table[other] for other in table}


def better_choice(policy, costs, views, debts):
    """A tree link and a view with which its branch would be cheaper, or None."""
    for view in views:
        for mode in view[1]:
            link = (view[0], mode)
            if around(policy, costs, debts, view, [mode]) < debts[link]:
                return (link, view)
    return None


def road_back(table, link, view):
    """The road from the root of a branch, with a view, to the same branch growing on it by choices, or None.

    If the branch would be cheaper with this view, it is so by the cost of the road alone.
    """
    waiting = [(link, (view,))]
    known = {}
    while waiting:
        (mode, kept), road = waiting.pop()
        for other in left_out(road[-1], [kept]):
            child = (other, mode)
            if child == link:
                return road
            if child not in known:
                known[child] = True
                waiting.append((child, road + (table[child],)))
    return None


def debt_triples(debts, bottom):
    """A dict of costs by links as the ascending triples (a, b, debt)."""
    return tuple(sorted([(a, b, made(debt, bottom)) for (a, b), debt in debts.items()]))


def branch_debts(policy, scores, limit, choices):
    """The debts of all branches that grow by choices."""
    worth = checked_scores(policy, scores)
    check_choices(policy, choices, 3)
    return debt_triples(table_debts(policy, costs_above(worth, limit), table_of(choices)), limit[1])


def least_extra(policy, costs, debts):
    """The least cost of an obeying tree, None if there is none."""
    return min([around(policy, costs, debts, view, []) for view in tree_views(policy)], default=None)


def least_debts(policy, scores, limit):
    """The least debts of branches and trees, or a road by which debts fall below any number."""
    costs = costs_above(checked_scores(policy, scores), limit)
    table, debts, road = cheapest(policy, costs)
    if road is not None:
        return ("pump", road, choices_of(table))
    extra = least_extra(policy, costs, debts)
    return ("debts", debt_triples(debts, limit[1]), None if extra is None else made(extra, limit[1]))


def is_debt_evidence(policy, scores, limit, value):
    """Whether any value shows that debts are bounded, or that they are not."""
    worth = checked_scores(policy, scores)
    if is_told(value, "pump", 3):
        if not is_road(policy, value[1]) or not is_choices(policy, value[2]):
            return False
        return choice_cost(policy, costs_above(worth, limit), value[1], value[2]) < 0
    return is_told(value, "debts", 3) and shows_bound(policy, worth, limit, value[1], value[2])


def choice_cost(policy, costs, road, choices):
    """The cost of a road with branches that grow by choices."""
    return road_cost(policy, costs, table_debts(policy, costs, table_of(choices)), road)


def shows_bound(policy, worth, limit, table, extra):
    """Whether any values are debts of branches below which, and of trees below which, none is."""
    links = tree_links(policy)
    if not is_tuple_of(table, len(links)) or not all([is_debt(link, entry) for link, entry in zip(links, table)]):
        return False
    debts = {(a, b): debt for a, b, debt in table}
    views = tree_views(policy)
    if not views:
        return extra is None
    if not is_fraction(extra):
        return False
    return all([is_bounded(view, less((worth[policy.spot(view)], 1), limit), debts, extra) for view in views])


def is_debt(link, value):
    """Whether any value tells a fraction for a tree link."""
    if not is_tuple_of(value, 3) or not is_number(value[0]) or not is_number(value[1]):
        return False
    return value[:2] == link and is_fraction(value[2])


def is_bounded(view, own, debts, extra):
    """Whether a site with a view and a debt of its own keeps to the debts of its branches."""
    whole = own
    for mode in view[1]:
        whole = added(whole, debts[(mode, view[0])])
    if compared(whole, extra) < 0:
        return False
    return all([compared(less(whole, debts[(mode, view[0])]), debts[(view[0], mode)]) >= 0 for mode in view[1]])


def least_choices(policy, scores, limit):
    """Some choices by which all branches have their least debts, None if debts are not bounded."""
    table, _, road = cheapest(policy, costs_above(checked_scores(policy, scores), limit))
    return choices_of(table) if road is None else None


def least_tree(policy, scores, limit):
    """Some obeying tree of the least debt, None if debts are not bounded."""
    worth = checked_scores(policy, scores)
    views = tree_views(policy)
    if not views:
        raise NoNetwork()
    costs = costs_above(worth, limit)
    table, debts, road = cheapest(policy, costs)
    if road is not None:
        return None
    extra = least_extra(policy, costs, debts)
    best = [view for view in views if around(policy, costs, debts, view, []) == extra]
    return grown(policy, choices_of(table), best[0])


def view_floors(policy, scores, limit):
    """For each allowed view the least debt of an obeying tree that has it; None if debts are not bounded."""
    costs = costs_above(checked_scores(policy, scores), limit)
    _, debts, road = cheapest(policy, costs)
    if road is not None:
        return None
    floors = {view: made(around(policy, costs, debts, view, []), limit[1]) for view in tree_views(policy)}
    return tuple([floors.get(view) for view in policy.views])


def link_floors(policy, scores, limit):
    """For each tree link (a, b), a at most b, the least debt of a tree with it; None if debts are not bounded."""
    _, debts, road = cheapest(policy, costs_above(checked_scores(policy, scores), limit))
    if road is not None:
        return None
    links = [(a, b) for a, b in tree_links(policy) if a <= b]
    return tuple([(a, b, made(debts[(a, b)] + debts[(b, a)], limit[1])) for a, b in links])


def fewest_sites(policy):
    """The least number of sites of an obeying tree, 0 if there is none."""
    costs = [1 for _ in policy.views]
    extra = least_extra(policy, costs, cheapest(policy, costs)[1])
    return 0 if extra is None else extra


def most_sites(policy):
    """The greatest number of sites of an obeying tree, 0 if there is none; None if there is no greatest one."""
    costs = [-1 for _ in policy.views]
    _, debts, road = cheapest(policy, costs)
    if road is not None:
        return None
    extra = least_extra(policy, costs, debts)
    return 0 if extra is None else -extra


def tree_mean(policy, scores):
    """What the means of ever greater obeying trees come near to, at least, and what proves it."""
    worth = checked_scores(policy, scores)
    if not tree_views(policy):
        return ("none",)
    many = most_sites(policy)
    if many is not None:
        return ("few", many)
    # With this limit each road has a debt below 0; each road found has a lesser mean than the one before.
    limit = (max(worth) + 1, 1)
    last = ()
    answer = least_debts(policy, worth, limit)
    while answer[0] == "pump":
        last = answer[1:]
        limit = road_mean(policy, worth, last[0], last[1])
        answer = least_debts(policy, worth, limit)
    return ("mean", limit) + answer[1:] + last


def road_mean(policy, worth, road, choices):
    """The mean score of the sites of a road, once, and of the branches beside it."""
    many = choice_cost(policy, [1 for _ in worth], road, choices)
    return made(choice_cost(policy, worth, road, choices), many)


def is_tree_mean(policy, scores, value):
    """Whether any value is a right answer of `tree_mean`."""
    worth = checked_scores(policy, scores)
    if is_told(value, "none", 1):
        return len(tree_views(policy)) == 0
    if is_told(value, "few", 2):
        return is_integer(value[1]) and value[1] > 0 and value[1] == most_sites(policy)
    if not is_told(value, "mean", 6) or not is_fraction(value[1]):
        return False
    _, limit, table, extra, road, choices = value
    if not shows_bound(policy, worth, limit, table, extra):
        return False
    if not is_road(policy, road) or not is_choices(policy, choices):
        return False
    return choice_cost(policy, costs_above(worth, limit), road, choices) == 0

"""Trees hung branch on branch, and debts by levels, for the tests."""

from collections import Counter
from fractions import Fraction

from plain import fraction, strict_fraction, strict_view, told, walked_views


def rest_of(view, modes):
    """The neighbours of a view without some modes, or None."""
    if Counter(modes) - Counter(view[1]):
        return None
    return sorted((Counter(view[1]) - Counter(modes)).elements())


def small_trees(policy, most):
    """The views of the sites of all obeying trees of at most so many sites; the first site may be any."""
    found = set()

    def hang(views, ends):
        if len(views) + len(ends) > most:
            return
        if not ends:
            found.add(tuple(sorted(views)))
            return
        kept, mode = ends[-1]
        for view in policy.views:
            if view[0] == mode and kept in view[1]:
                hang(views + [view], ends[:-1] + [(mode, other) for other in rest_of(view, [kept])])
    for view in policy.views:
        hang([view], [(view[0], mode) for mode in view[1]])
    return found


def plain_tree_parts(policy):
    """The tree views and tree links: all branches of more and more levels."""
    branches = set()
    while True:
        wider = {(view[0], b) for view in policy.views for b in view[1]
                 if all((x, view[0]) in branches for x in rest_of(view, [b]))}
        if wider == branches:
            break
        branches = wider
    views = tuple(view for view in policy.views if all((x, view[0]) in branches for x in view[1]))
    return views, tuple(sorted({(view[0], b) for view in views for b in view[1]}))


def plain_debts(policy, scores, limit):
    """The least debts of branches by levels and of trees, or None if further levels still find lesser ones."""
    views, links = plain_tree_parts(policy)
    own = {view: score - limit for view, score in zip(policy.views, scores)}
    least = {}
    for level in range(2 * len(links) + 3):
        again = {}
        for view in views:
            for b in view[1]:
                parts = [least.get((x, view[0])) for x in rest_of(view, [b])]
                if None not in parts:
                    debt = own[view] + sum(parts)
                    again[view[0], b] = min(debt, again.get((view[0], b), debt))
        if again == least and set(least) == set(links):
            return least, [own[view] + sum(least[x, view[0]] for x in view[1]) for view in views]
        least = again
    return None


def judge_choices(policy, value):
    views, links = plain_tree_parts(policy)
    if type(value) is not tuple or len(value) != len(links):
        return False
    for link, entry in zip(links, value):
        if type(entry) is not tuple or len(entry) != 3 or any(type(x) is not int for x in entry[:2]) or entry[:2] != link:
            return False
        if not strict_view(entry[2]) or entry[2] not in views or entry[2][0] != link[0] or link[1] not in entry[2][1]:
            return False
    done = set()
    for _ in links:
        done |= {(a, b) for a, b, view in value if all((x, a) in done for x in rest_of(view, [b]))}
    return done == set(links)


def judge_road(policy, value):
    views, _ = plain_tree_parts(policy)
    if type(value) not in (tuple, list) or not value or not all(strict_view(view) and view in views for view in value):
        return False
    return None not in sides_of(value)


def sides_of(road):
    return [rest_of(view, [road[at - 1][0], road[(at + 1) % len(road)][0]]) for at, view in enumerate(road)]


def branch_views_by(choices, a, b):
    """The views of a branch that grows by choices, as a list."""
    table = {entry[:2]: entry[2] for entry in choices}
    found, waiting = [], [(a, b)]
    while waiting:
        link = waiting.pop()
        view = table[link]
        found.append(view)
        waiting += [(x, link[0]) for x in rest_of(view, [link[1]])]
    return found


def road_views_by(road, choices):
    """The views of a road, once, and of the branches beside it."""
    found = list(road)
    for view, row in zip(road, sides_of(road)):
        for x in row:
            found += branch_views_by(choices, x, view[0])
    return found


def debt_of(policy, scores, limit, views):
    worth = dict(zip(policy.views, scores))
    return sum((worth[view] - limit for view in views), Fraction(0))


def judge_debts(policy, scores, limit, value):
    """Whether any value is right evidence of [87]."""
    if told(value, "pump", 3):
        if not judge_road(policy, value[1]) or not judge_choices(policy, value[2]):
            return False
        return debt_of(policy, scores, limit, road_views_by(value[1], value[2])) < 0
    if not told(value, "debts", 3):
        return False
    views, links = plain_tree_parts(policy)
    _, table, extra = value
    if type(table) is not tuple or len(table) != len(links):
        return False
    for link, entry in zip(links, table):
        if type(entry) is not tuple or len(entry) != 3 or any(type(x) is not int for x in entry[:2]) or entry[:2] != link:
            return False
        if not strict_fraction(entry[2]):
            return False
    if not views:
        return extra is None
    if not strict_fraction(extra):
        return False
    debts = {entry[:2]: fraction(entry[2]) for entry in table}
    worth = dict(zip(policy.views, scores))
    for view in views:
        whole = worth[view] - limit + sum(debts[x, view[0]] for x in view[1])
        if whole < fraction(extra) or any(whole - debts[b, view[0]] < debts[view[0], b] for b in view[1]):
            return False
    return True


def is_plain_tree(modes, links):
    """Whether sites are joined by links without a ring."""
    joined = list(range(len(modes)))
    for i, j in links:
        if joined[i] == joined[j]:
            return False
        joined = [joined[i] if x == joined[j] else x for x in joined]
    return len(set(joined)) == 1


def obeying_tree(policy, network):
    return is_plain_tree(network.modes, network.links) and set(walked_views(network.modes, network.links)) <= set(policy.views)

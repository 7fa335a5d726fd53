"""All small networks, link by link."""

from itertools import combinations_with_replacement

from plain import half


def linked(plan):
    """Some links by which each site has its view in a plan, or None; each choice is tried."""
    def search(wants, links, at, last):
        while at < len(plan) and not wants[at]:
            at, last = at + 1, None
        if at == len(plan):
            return links
        mode, wanted = plan[at][0], wants[at][0]
        # The neighbours in one mode are taken in ascending order.
        first = last[1] + 1 if last is not None and last[0] == wanted else at + 1
        for other in range(first, len(plan)):
            if plan[other][0] == wanted and mode in wants[other]:
                rest = [list(row) for row in wants]
                rest[at].pop(0)
                rest[other].remove(mode)
                found = search(rest, links + [(at, other)], at, (wanted, other))
                if found is not None:
                    return found
        return None
    return search([list(view[1]) for view in plan], [], 0, None)


def small_collections(policy, most, least=1):
    """For each number of sites up to `most` all collections of networks that obey a policy."""
    found = {}
    for many in range(least, most + 1):
        found[many] = []
        for plan in combinations_with_replacement(policy.views, many):
            lot = tuple((view, plan.count(view)) for view in sorted(set(plan)))
            pairs = [(a, b) for a in range(4) for b in range(a, 4)]
            if any(half(lot, a, b) != half(lot, b, a) if a != b else half(lot, a, a) % 2 for a, b in pairs):
                continue
            if linked(plan) is not None:
                found[many].append(lot)
    return found

"""Plans and collections: which networks have just these views, and how many sites they need."""

from handalong.basics import common_divisor, is_number, is_tuple_of
from handalong.collected import copies, sites, unbalanced
from handalong.degrees import row_fault, row_graph, row_graph_count, rows_behind, sides_fault, sides_graph
from handalong.degrees import sides_graph_count, tallies_bar, tallies_fault, tally, tally_bars, tally_fault, tally_sum
from handalong.errors import Refused
from handalong.networks import Network
from handalong.views import MOST_MODES, seen

# The kinds of links: the modes of the two ends, ascending.
KINDS = ((0, 0), (0, 1), (0, 2), (0, 3), (1, 1), (1, 2), (1, 3), (2, 2), (2, 3), (3, 3))


def wanted_row(plan, a, b):
    """The row of a towards b: how many neighbours in mode b each site in mode a wants."""
    return tuple([seen(view, b) for view in plan if view[0] == a])


def kind_rows(plan, a, b):
    """The row of a towards b and that of b towards a."""
    return (wanted_row(plan, a, b), wanted_row(plan, b, a))


def kind_fault(plan, a, b):
    """The fault of the kind (a, b), or None."""
    left, right = kind_rows(plan, a, b)
    return row_fault(left) if a == b else sides_fault(left, right)


def plan_fault(plan):
    """None, or (a, b, k) with the first kind that has a fault, and the fault."""
    for a, b in KINDS:
        fault = kind_fault(plan, a, b)
        if fault is not None:
            return (a, b, fault)
    return None


def is_plan_fault(plan, value):
    """Whether any value is a triple (a, b, k) that bars the plan."""
    if not is_tuple_of(value, 3) or not all([is_number(entry) for entry in value]):
        return False
    a, b, k = value
    if not a <= b < MOST_MODES:
        return False
    left, right = kind_rows(plan, a, b)
    return k <= len(left) and rows_bar(a == b, tally(left), tally(right), k)


def rows_bar(alike, left, right, k):
    """Whether k bars a kind with these tallies; `alike` if it joins sites in one mode."""
    if alike:
        return tally_sum(left) % 2 == 1 if k == 0 else tally_bars(left, k)
    return tally_sum(left) != tally_sum(right) if k == 0 else tallies_bar(left, right, k)


def build(plan):
    """Some network that fits a plan."""
    links = []
    for a, b in KINDS:
        links.extend(kind_links(plan, a, b))
    return Network([view[0] for view in plan], links)


def kind_links(plan, a, b):
    """Some links of the kind (a, b); refused with its fault, if it has one."""
    left, right = kind_rows(plan, a, b)
    graph = row_graph(left) if a == b else sides_graph(left, right)
    ones = places_of(plan, a)
    others = places_of(plan, b)
    return [(ones[i], others[j]) for i, j in graph]


def places_of(plan, mode):
    """The sites of a plan in a mode."""
    return [at for at, view in enumerate(plan) if view[0] == mode]


def fitting_count(plan):
    """How many networks fit a plan of at most 8 sites."""
    product_so_far = 1
    for a, b in KINDS:
        left, right = kind_rows(plan, a, b)
        product_so_far *= row_graph_count(left) if a == b else sides_graph_count(left, right)
    return product_so_far


def sure_links(plan):
    """The links that all networks have that fit a plan of at most 8 sites."""
    return tuple([link for link in build(plan).links if not can_lack(plan, link)])


def can_lack(plan, link):
    """Whether some network that fits a plan lacks a link."""
    one, other = link
    a = plan[one][0]
    b = plan[other][0]
    left, right = kind_rows(plan, a, b)
    i = places_of(plan, a).index(one)
    j = places_of(plan, b).index(other)
    wanted = left[i]
    # The site i takes its neighbours among all but j (and itself); the rest has to have a graph.
    if a == b:
        free = [number for at, number in enumerate(left) if at != i and at != j]
        return any([row_fault([left[j], *rest]) is None for rest in rows_behind(free, wanted)])
    free = [number for at, number in enumerate(right) if at != j]
    others = left[:i] + left[i + 1:]
    return any([sides_fault(others, [right[j], *rest]) is None for rest in rows_behind(free, wanted)])


def seats(collection):
    """The plan that has the views of a collection, ascending, each as often as it is counted."""
    return tuple([view for view, count in collection for _ in range(count)])


def lowest(collection):
    """The collection with its counts divided by their greatest common divisor."""
    common = common_divisor([count for _, count in collection])
    return tuple([(view, count // common) for view, count in collection])


def check_balance(collection):
    """Refuses a collection that no network has, nor a multiple of it."""
    if unbalanced(collection) is not None:
        raise Refused(0)


def wanted_tally(collection, a, b):
    """The tally of the row of a towards b of the sites that a collection counts."""
    counts = {}
    for view, count in collection:
        if view[0] == a:
            counts[seen(view, b)] = counts.get(seen(view, b), 0) + count
    return tuple(sorted(counts.items(), reverse=True))


def collection_kind_fault(collection, a, b):
    """The fault of the kind (a, b) of the sites that a collection counts, or None."""
    left = wanted_tally(collection, a, b)
    return tally_fault(left) if a == b else tallies_fault(left, wanted_tally(collection, b, a))


def is_good(collection, number):
    """Whether some network has so many copies of a collection as its collection."""
    check_balance(collection)
    many = copies(collection, number)
    return all([collection_kind_fault(many, a, b) is None for a, b in KINDS])


def good_numbers(collection, most):
    """The good numbers of a collection up to `most`."""
    check_balance(collection)
    return tuple([number for number in range(1, most + 1) if is_good(collection, number)])


def least_good(collection):
    """The least good number of a collection."""
    number = 1
    while not is_good(collection, number):
        number += 1
    return number


def compact(collection):
    """Some network with the fewest sites of all that have these views in these shares."""
    least = lowest(collection)
    return build(seats(copies(least, least_good(least))))


def share_sizes(collection, most):
    """The numbers of sites, up to `most`, of all networks that have these views in these shares."""
    least = lowest(collection)
    size = sites(least)
    return tuple([size * number for number in good_numbers(least, most // size)])

"""Rows and two-sided rows: whether there is a graph, some graph, how many there are."""

from heapq import heapify, heappop, heappush
from itertools import combinations

from handalong.errors import Refused

# A row is also told by its tally: the pairs (number, how often it stands there), the greatest
# number first. So rows may be very long where they have few unlike numbers.


def tally(row):
    """The tally of a row."""
    counts = {}
    for number in row:
        counts[number] = counts.get(number, 0) + 1
    return tuple(sorted(counts.items(), reverse=True))


def tally_sum(counted):
    """The sum of the row of a tally."""
    return sum([number * many for number, many in counted])


def tally_length(counted):
    """The length of the row of a tally."""
    return sum([many for _, many in counted])


def greatest_number(counted):
    """The greatest number of the row of a tally, 0 if it has none."""
    return max([number for number, _ in counted], default=0)


def split_sums(counted, k):
    """The sum of the k greatest numbers, and that of the lesser one of each other number and k."""
    top = 0
    rest = 0
    wanted = k
    for number, many in counted:
        taken = min(wanted, many)
        wanted -= taken
        top += taken * number
        rest += (many - taken) * min(number, k)
    return (top, rest)


def tally_bars(counted, k):
    """Whether the k greatest numbers want more than there can be for them."""
    top, rest = split_sums(counted, k)
    return top > k * (k - 1) + rest


def tallies_bar(left, right, k):
    """Whether the k greatest numbers of the left want more than the right can give them."""
    return split_sums(left, k)[0] > sum([many * min(number, k) for number, many in right])


def tally_fault(counted):
    """The fault of the row of a tally, or None."""
    if tally_sum(counted) % 2 == 1:
        return 0
    # From k = greatest number + 1 on, k (k - 1) alone is enough.
    for k in range(1, min(tally_length(counted), greatest_number(counted)) + 1):
        if tally_bars(counted, k):
            return k
    return None


def tallies_fault(left, right):
    """The fault of the two-sided rows of two tallies, or None."""
    if tally_sum(left) != tally_sum(right):
        return 0
    # From k = greatest number of the right on, the right gives all that it has.
    for k in range(1, min(tally_length(left), greatest_number(right)) + 1):
        if tallies_bar(left, right, k):
            return k
    return None


def row_fault(row):
    """None if the row has a graph, else 0 for an odd sum, or the least k that bars it."""
    return tally_fault(tally(row))


def sides_fault(left, right):
    """None if the rows have a two-sided graph, else 0 for unlike sums, or the least k that bars it."""
    return tallies_fault(tally(left), tally(right))


def row_graph(row):
    """Some graph of a row."""
    fault = row_fault(row)
    if fault is not None:
        raise Refused(fault)
    queue = [(-number, at) for at, number in enumerate(row)]
    heapify(queue)
    pairs = []
    while queue:
        wanted, one = heappop(queue)
        for other in taken_from(queue, -wanted):
            pairs.append((min(one, other), max(one, other)))
    return tuple(sorted(pairs))


def sides_graph(left, right):
    """Some two-sided graph of two rows."""
    fault = sides_fault(left, right)
    if fault is not None:
        raise Refused(fault)
    queue = [(-number, at) for at, number in enumerate(right)]
    heapify(queue)
    pairs = []
    for one, wanted in enumerate(left):
        for other in taken_from(queue, wanted):
            pairs.append((one, other))
    return tuple(sorted(pairs))


def taken_from(queue, many):
    """The so many places of the queue that want most; each then wants one less."""
    taken = []
    for _ in range(many):
        taken.append(heappop(queue))
    for wanted, place in taken:
        heappush(queue, (wanted + 1, place))
    return [place for _, place in taken]


def row_graph_count(row):
    """How many graphs a row of at most 8 numbers has."""
    return graphs_of(tuple(sorted(row)), {})


def graphs_of(row, known):
    """How many graphs an ascending row has; `known` keeps what was counted before."""
    if len(row) == 0:
        return 1
    if row not in known:
        known[row] = sum([graphs_of(rest, known) for rest in rows_behind(row[:-1], row[-1])])
    return known[row]


def rows_behind(row, wanted):
    """The ascending rows that are left of a row if so many of its numbers have got one link."""
    choices = [chosen for chosen in combinations(range(len(row)), int(wanted)) if all_above_nought(row, chosen)]
    return [lowered(row, chosen) for chosen in choices]


def all_above_nought(row, places):
    """Whether the numbers at all these places still want a link."""
    return all([row[at] > 0 for at in places])


def lowered(row, places):
    """The row, ascending, with each number at these places less by one."""
    return tuple(sorted([number - 1 if at in places else number for at, number in enumerate(row)]))


def sides_graph_count(left, right):
    """How many two-sided graphs rows of at most 8 numbers in both together have."""
    return sides_graphs_of(tuple(left), tuple(sorted(right)), {})


def sides_graphs_of(left, right, known):
    """How many two-sided graphs there are; `known` keeps what was counted before."""
    if len(left) == 0:
        return int(sum(right) == 0)
    if (left, right) not in known:
        rests = rows_behind(right, left[0])
        known[(left, right)] = sum([sides_graphs_of(left[1:], rest, known) for rest in rests])
    return known[(left, right)]

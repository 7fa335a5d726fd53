"""Whether plays of changes come to rest."""

from math import lcm

from handalong.balancing import parted_columns
from handalong.basics import is_number, is_sequence, is_tuple_of, product_sum
from handalong.clocks import clock_pairs
from handalong.errors import InvalidQuestion
from handalong.networks import Network
from handalong.proofs import is_told
from handalong.weighings import effect, is_weighing

MOST_SITES = 64
SIZES = (0, 1, 2, 3, 4)


def effect_row(modes, change):
    """How often each number of a weighing is in the effect of a change: the links' ones, a <= b, then the sites'."""
    mode, neighbours, to = change
    counts = {pair: 0 for pair in clock_pairs(modes)}
    for other in neighbours:
        counts[tuple(sorted((to, other)))] += 1
        counts[tuple(sorted((mode, other)))] -= 1
    row = [counts[pair] for pair in clock_pairs(modes)]
    for many in SIZES:
        met = int(many == len(neighbours))
        row.extend([met * (int(at == to) - int(at == mode)) for at in range(modes)])
    return tuple(row)


def row_length(modes):
    """How many numbers a weighing has, those of (a, b) and (b, a) being one."""
    return len(clock_pairs(modes)) + len(SIZES) * modes


def weighing_of(modes, numbers):
    """The weighing with these integers, in the order of `effect_row`."""
    pairs = clock_pairs(modes)
    table = {pair: number for pair, number in zip(pairs, numbers)}
    links = tuple([tuple([table[(min(a, b), max(a, b))] for b in range(modes)]) for a in range(modes)])
    starts = [len(pairs) + modes * many for many in SIZES]
    return (links, tuple([tuple(numbers[start:start + modes]) for start in starts]))


def balance(book):
    """A weighing that passing changes lower and no other one alters, and counts of the others that cancel."""
    rows = [effect_row(book.modes, change) for change in book.changes]
    counts, prices = parted_columns(rows, row_length(book.modes))
    scale = 1
    for _, bottom in prices:
        scale = lcm(scale, bottom)
    weighing = weighing_of(book.modes, [top * (scale // bottom) for top, bottom in prices])
    return (weighing, tuple([counts.get(at, 0) for at in range(len(rows))]))


def passing(book):
    """The changes that some weighing lowers while it rises by no change of the book."""
    _, counts = balance(book)
    return tuple([change for change, count in zip(book.changes, counts) if count == 0])


def is_balance(book, value):
    """Whether any value is a right answer of `balance`."""
    if not is_tuple_of(value, 2):
        return False
    weighing, counts = value
    if not is_weighing(book.modes, weighing) or not is_tuple_of(counts, len(book.changes)):
        return False
    if not all([is_number(count) for count in counts]):
        return False
    for change, count in zip(book.changes, counts):
        added_weight = effect(weighing, change)
        if added_weight > 0 or (added_weight == 0) != (count > 0):
            return False
    rows = [effect_row(book.modes, change) for change in book.changes]
    sides = [[row[at] for row in rows] for at in range(row_length(book.modes))]
    return all([product_sum(counts, side) == 0 for side in sides])


def checked_moves(book):
    """The triples (number of neighbours, of these in mode 1 at a rise, at a fall) of a book of two modes."""
    if book.modes != 2:
        raise InvalidQuestion(0)
    found = []
    for mode, neighbours, _ in book.changes:
        falls = [other for other in book.changes if other[0] == 1 and len(other[1]) == len(neighbours)]
        if mode == 0:
            found.extend([(len(neighbours), sum(neighbours), sum(other)) for _, other, _ in falls])
    return found


def always_ends(book):
    """Whether all plays on all networks end."""
    leads = [rise - drop for _, rise, drop in checked_moves(book)]
    return min(leads, default=1) > 0 or max(leads) < 0


def end_evidence(book):
    """A weighing that each change lowers, or a network and a play that leads back to it."""
    pairs = checked_moves(book)
    flat = [pair for pair in pairs if pair[1] == pair[2]]
    following = [pair for pair in pairs if pair[1] > pair[2]]
    opposing = [pair for pair in pairs if pair[1] < pair[2]]
    if flat:
        return ("round",) + flat_round(flat[0])
    if following and opposing:
        return ("round",) + turning_round(following[0], opposing[0])
    return ("weighing", lowered_weighing(book, 2 if opposing else -2))


def lowered_weighing(book, pull):
    """A weighing of two modes that each change lowers, `pull` being what a link within mode 1 weighs.

    A rise adds `pull` for each neighbour in mode 1, a fall takes this away; what a site in mode 1
    weighs is chosen so that the rises lower the weight, and then so do the falls.
    """
    sites = []
    for many in SIZES:
        alike = [change for change in book.changes if len(change[1]) == many]
        rises = [pull * sum(neighbours) for mode, neighbours, _ in alike if mode == 0]
        falls = [pull * sum(neighbours) for mode, neighbours, _ in alike if mode == 1]
        sites.append((0, -1 - max(rises) if rises else 1 - min(falls, default=1)))
    return (((0, 0), (0, pull)), tuple(sites))


def flat_round(pair):
    """A network and a play in which one site rises and falls while its neighbours stay."""
    many, ones, _ = pair
    modes = [0] + [1] * ones + [0] * (many - ones)
    return (Network(modes, [(0, at) for at in range(1, many + 1)]), ((0, 1), (0, 0)))


def turning_round(following, opposing):
    """A network and a play in which sites of two sorts chase each other.

    Those that follow rise while all opposers are in mode 1; then these fall, which lets the
    followers fall, which lets the opposers rise. Further neighbours never change.
    """
    many, high, low = following
    others, less_high, more_high = opposing
    followers = list(range(more_high - less_high))
    opposers = list(range(len(followers), len(followers) + high - low))
    modes = [0] * len(followers) + [1] * len(opposers)
    links = [(one, other) for one in followers for other in opposers]
    for group, ones, zeros in ((followers, low, many - high), (opposers, less_high, others - more_high)):
        for site in group:
            for mode in [1] * ones + [0] * zeros:
                links.append((site, len(modes)))
                modes.append(mode)
    steps = [(site, 1) for site in followers] + [(site, 0) for site in opposers]
    steps.extend([(site, 0) for site in followers])
    steps.extend([(site, 1) for site in opposers])
    return (Network(modes, links), tuple(steps))


def is_end_evidence(book, value):
    """Whether any value is a weighing that each change lowers, or a network and a play that leads back to it."""
    if is_told(value, "weighing", 2):
        if not is_weighing(book.modes, value[1]):
            return False
        return all([effect(value[1], change) <= -1 for change in book.changes])
    if not is_told(value, "round", 3):
        return False
    _, network, steps = value
    if not isinstance(network, Network) or len(network.modes) > MOST_SITES:
        return False
    return is_sequence(steps) and len(steps) > 0 and leads_back(book, network, steps)


def leads_back(book, network, steps):
    """Whether any values are a play that ends where it begins."""
    try:
        return book.played(network, steps) == network
    except InvalidQuestion:
        return False

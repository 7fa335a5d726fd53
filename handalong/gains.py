"""Tables of what sites gain from their neighbours, views at rest, and exact weights."""

from handalong.basics import is_below, is_tuple_of
from handalong.changes import ChangeBook
from handalong.errors import InvalidScore
from handalong.policies import Policy
from handalong.proofs import is_told
from handalong.views import MOST_MODES, all_views
from handalong.weighings import are_rows, is_even_table

MOST_GAIN = 1000


def is_table(value):
    """Whether any value is a table."""
    if not isinstance(value, tuple) or not 1 <= len(value) <= MOST_MODES or not are_rows(len(value), len(value), value):
        return False
    return all([abs(number) <= MOST_GAIN for row in value for number in row])


def check_table(value):
    """Refuses any value that is no table."""
    if not is_table(value):
        raise InvalidScore(0)


def gain(table, view):
    """What a site with a view gains from all its neighbours."""
    return sum([table[view[0]][other] for other in view[1]])


def lead(table, view, mode):
    """How much more a site with a view would gain in a mode, from the same neighbours."""
    return gain(table, (mode, view[1])) - gain(table, view)


def sized_views(table, sizes):
    """All views of the modes of a table with some numbers of neighbours."""
    return [view for size in sizes for view in all_views(len(table), size)]


def rest_policy(table, sizes):
    """The policy of all views at rest with some numbers of neighbours."""
    check_table(table)
    modes = range(len(table))
    views = [view for view in sized_views(table, sizes) if max([lead(table, view, mode) for mode in modes]) == 0]
    return Policy(len(table), views)


def better_book(table, sizes):
    """The book of all changes by which sites with some numbers of neighbours gain more."""
    check_table(table)
    triples = [(view, mode) for view in sized_views(table, sizes) for mode in range(len(table))]
    return ChangeBook(len(table), [view + (mode,) for view, mode in triples if lead(table, view, mode) > 0])


def round_sum(table, a, c, b, e):
    """What two linked sites gain that take c, e, a, b in turn, the first from a on, the second from b on."""
    first = lead(table, (a, (b,)), c) + lead(table, (c, (e,)), a)
    return first + lead(table, (b, (c,)), e) + lead(table, (e, (a,)), b)


def exact_weights(table):
    """Weights of links that rise by what is gained, or the first four modes that bar this."""
    check_table(table)
    many = range(len(table))
    for a, c, b, e in [(a, c, b, e) for a in many for c in many for b in many for e in many]:
        if round_sum(table, a, c, b, e) != 0:
            return ("round", (a, c, b, e))
    extra = [table[mode][0] - table[0][mode] for mode in many]
    return ("weights", tuple([tuple([number + more for number, more in zip(row, extra)]) for row in table]))


def is_exact(table, value):
    """Whether any value is a right answer of `exact_weights`, with any such four modes."""
    many = len(table)
    if is_told(value, "weights", 2):
        rows = value[1]
        return is_even_table(many, rows) and all([is_moved_alike(table, rows, b) for b in range(many)])
    if not is_told(value, "round", 2) or not is_tuple_of(value[1], 4):
        return False
    if not all([is_below(mode, many) for mode in value[1]]):
        return False
    a, c, b, e = value[1]
    return round_sum(table, a, c, b, e) != 0


def is_moved_alike(table, rows, b):
    """Whether the gains from mode b differ from those of the first mode just as the weights do."""
    return all([table[c][b] - table[0][b] == rows[c][b] - rows[0][b] for c in range(len(table))])

"""Second, plain ways of counting, and odd values, for the tests."""

import random
import unittest
from fractions import Fraction
from itertools import combinations, product
from math import gcd

from handalong.errors import InvalidScore, NoNetwork

PAIRS = {n: [(a, b) for a in range(n) for b in range(a + 1, n)] for n in (1, 2, 3, 4)}


class Odd:
    """A value of no kind that the package knows."""


class Agreeable:
    """A value that says that it equals every other one."""

    def __eq__(self, other):
        return True

    __hash__ = None


# None of these is a sequence, an integer, a fraction, a view ..
ODD = [None, True, False, "", "0", "ab", b"", b"ab", 1.0, 0.5, {}, {0: 1}, {1, 2}, frozenset(), range(3), Odd(), Odd, len, Agreeable()]


class Case(unittest.TestCase):
    """What the test cases have in common."""

    def refused(self, kind, at, work):
        """That work raises an error of just this kind, with this number."""
        with self.assertRaises(kind) as caught:
            work()
        self.assertIs(type(caught.exception), kind)
        self.assertEqual(caught.exception.at, at)
        self.assertIs(type(caught.exception.at), int)

    def refuses_scores(self, policy, work):
        """That work with scores refuses wrong ones, whatever else there is."""
        many = len(policy.views)
        for value in ODD + [[0] * (many + 1), (1,) * (many + 2)] + ([[]] if many else []):
            self.refused(InvalidScore, many, lambda: work(value))
        for at in range(many):
            for odd in (None, True, 1.0, "1", (1,)):
                value = [0] * many
                value[at] = odd
                self.refused(InvalidScore, at, lambda: work(value))
                self.refused(InvalidScore, at, lambda: work(tuple(value) + (None,)))

    def refuses_weights(self, many, work):
        """That work with so many weights refuses wrong ones, whatever else there is."""
        for value in ODD + [[], [0] * (many + 1), (0,) * (many + 2)]:
            self.refused(InvalidScore, many, lambda: work(value))
        for at in range(many):
            for odd in (None, True, 1.0, "1", (1,)):
                value = [0] * many
                value[at] = odd
                self.refused(InvalidScore, at, lambda: work(value))
                self.refused(InvalidScore, at, lambda: work(tuple(value) + (None,)))

    def without_network(self, work):
        """That work raises NoNetwork, and no subclass of it."""
        with self.assertRaises(NoNetwork) as caught:
            work()
        self.assertIs(type(caught.exception), NoNetwork)

    def checks_basis(self, rows, width, counts):
        """That rows are the reduced basis, in fractions, of all rows of a width whose sums over each count are 0."""
        self.all_tuples(rows)
        self.assertEqual(len(rows), width - rank(counts))
        places = []
        for row in rows:
            self.assertEqual(len(row), width)
            self.assertTrue(all(pair(fraction(x)) == x for x in row))
            place = next(at for at, x in enumerate(row) if x != (0, 1))
            self.assertEqual(row[place], (1, 1))
            self.assertTrue(all(other is row or other[place] == (0, 1) for other in rows))
            places.append(place)
            for count in counts:
                self.assertEqual(sum(fraction(x) * k for x, k in zip(row, count)), 0)
        self.assertEqual(places, sorted(places))

    def all_tuples(self, value):
        """That what is told is made of tuples throughout."""
        self.assertNotIsInstance(value, (list, dict, set))
        if isinstance(value, tuple):
            self.assertIs(type(value), tuple)
            for entry in value:
                self.all_tuples(entry)
        elif not hasattr(value, "__dict__"):
            self.assertIn(type(value), (int, str, bool, type(None)))


def dice(seed):
    """Numbers that look drawn at random, the same ones in each run."""
    return random.Random(seed)


def fraction(pair):
    """A fraction of the package as one of Python."""
    return Fraction(pair[0], pair[1])


def pair(value):
    """A fraction of Python as one of the package."""
    value = Fraction(value)
    return (value.numerator, value.denominator)


def simple_graphs(n):
    """All sets of pairs of n things, as tuples."""
    pairs = list(combinations(range(n), 2))
    for chosen in product((False, True), repeat=len(pairs)):
        yield tuple(p for p, c in zip(pairs, chosen) if c)


def degrees(n, graph):
    return tuple(sum(at in p for p in graph) for at in range(n))


def sided_graphs(left, right):
    """All sets of pairs of one of so many things and one of so many others."""
    pairs = list(product(range(left), range(right)))
    for chosen in product((False, True), repeat=len(pairs)):
        yield tuple(p for p, c in zip(pairs, chosen) if c)


def sided_degrees(left, right, graph):
    return (tuple(sum(i == at for i, _ in graph) for at in range(left)),
            tuple(sum(j == at for _, j in graph) for at in range(right)))


def walked_views(modes, links):
    """The views of the sites, link by link."""
    near = [[] for _ in modes]
    for i, j in links:
        near[i].append(modes[j])
        near[j].append(modes[i])
    return tuple((mode, tuple(sorted(row))) for mode, row in zip(modes, near))


def between(view, a, b):
    """How often a view has the mode a and the neighbour b."""
    return sum(x == b for x in view[1]) if view[0] == a else 0


def half(collection, a, b):
    return sum(count * between(view, a, b) for view, count in collection)


def balanced(collection):
    return all(half(collection, a, b) == half(collection, b, a) for a, b in PAIRS[4])


def site_count(collection):
    return sum(count for _, count in collection)


def is_told_collection(value, policy=None):
    """Whether a collection is told as it should be, within a policy."""
    if not isinstance(value, tuple) or not value or list(value) != sorted(value):
        return False
    if len({view for view, _ in value}) != len(value):
        return False
    if any(type(entry) is not tuple or type(entry[1]) is not int or entry[1] < 1 for entry in value):
        return False
    return policy is None or all(view in policy.views for view, _ in value)


def plain_total(policy, scores, collection):
    return sum(scores[policy.views.index(view)] * count for view, count in collection)


def plain_mean(policy, scores, collection):
    return Fraction(plain_total(policy, scores, collection), site_count(collection))


def plain_sends(modes, transfer, view):
    """What a view sends, neighbour by neighbour."""
    table = {}
    for (a, b), t in zip(PAIRS[modes], transfer):
        table[a, b] = fraction(t)
        table[b, a] = -fraction(t)
    return sum((table.get((view[0], b), Fraction(0)) for b in view[1]), Fraction(0))


def plain_lefts(policy, scores, transfer):
    return [score - plain_sends(policy.modes, transfer, view) for score, view in zip(scores, policy.views)]


def is_told_transfer(modes, value):
    """Whether a transfer is told as it should be."""
    if type(value) is not tuple or len(value) != len(PAIRS[modes]):
        return False
    return all(type(t) is tuple and len(t) == 2 and t[1] >= 1 and gcd(*t) == 1 for t in value)


def only_solution(rows):
    """The one positive integer solution (up to multiples) of rows of a homogeneous system, or None."""
    many = len(rows[0])
    rows = [[Fraction(x) for x in row] for row in rows]
    leads = []
    for col in range(many):
        at = next((k for k in range(len(leads), len(rows)) if rows[k][col]), None)
        if at is None:
            continue
        here = len(leads)
        rows[here], rows[at] = rows[at], rows[here]
        rows[here] = [x / rows[here][col] for x in rows[here]]
        for k in range(len(rows)):
            if k != here:
                rows[k] = [x - rows[k][col] * y for x, y in zip(rows[k], rows[here])]
        leads.append(col)
    free = [col for col in range(many) if col not in leads]
    if len(free) != 1:
        return None
    found = [Fraction(0)] * many
    found[free[0]] = Fraction(1)
    for k, col in enumerate(leads):
        found[col] = -rows[k][free[0]]
    if min(found) <= 0:
        return None
    scale = 1
    for x in found:
        scale = scale * x.denominator // gcd(scale, x.denominator)
    counts = [int(x * scale) for x in found]
    common = 0
    for x in counts:
        common = gcd(common, x)
    return [x // common for x in counts]


def least_solutions(columns):
    """All ways to make 0 of columns, with counts from 1 on, none of them possible with fewer columns.

    Each is a dict from the index of a column to its count, without a common divisor.
    """
    found = []
    rank = len(columns[0]) if columns else 0
    for size in range(1, rank + 2):
        for lot in combinations(range(len(columns)), size):
            rows = list(zip(*[columns[at] for at in lot])) or [(0,) * size]
            if all(not any(row) or min(row) < 0 < max(row) for row in rows):
                counts = only_solution(rows)
                if counts is not None:
                    found.append(dict(zip(lot, counts)))
    return found


def plain_crossings(modes, view):
    return tuple(between(view, a, b) - between(view, b, a) for a, b in PAIRS[modes])


def plain_elements(policy):
    """All balanced collections of which no part is balanced, by trying all lots of views."""
    columns = [plain_crossings(policy.modes, view) for view in policy.views]
    return [tuple((policy.views[at], counts[at]) for at in sorted(counts)) for counts in least_solutions(columns)]


def uneven_elements(policy, a, b):
    """Likewise with k more half-links (a, b) than (b, a), as pairs (collection, k)."""
    extra = tuple(-1 if pair == (a, b) else 1 if pair == (b, a) else 0 for pair in PAIRS[policy.modes])
    columns = [plain_crossings(policy.modes, view) for view in policy.views] + [extra]
    last = len(policy.views)
    found = []
    for counts in least_solutions(columns):
        if last in counts:
            lot = tuple((policy.views[at], counts[at]) for at in sorted(counts) if at != last)
            found.append((lot, counts[last]))
    return found


def rank(rows):
    """The number of independent rows."""
    rows = [[Fraction(x) for x in row] for row in rows]
    found = 0
    for col in range(len(rows[0]) if rows else 0):
        at = next((k for k in range(found, len(rows)) if rows[k][col]), None)
        if at is None:
            continue
        rows[found], rows[at] = rows[at], rows[found]
        for k in range(found + 1, len(rows)):
            share = rows[k][col] / rows[found][col]
            rows[k] = [x - share * y for x, y in zip(rows[k], rows[found])]
        found += 1
    return found


def random_policy_views(rng, modes, many, most=4):
    """Some views, in any order."""
    found = set()
    while len(found) < many:
        size = rng.randint(0, most)
        found.add((rng.randrange(modes), tuple(sorted(rng.randrange(modes) for _ in range(size)))))
    views = sorted(found)
    rng.shuffle(views)
    return views


def random_network_parts(rng, modes, many, tries=None):
    """Modes and links of some network."""
    told = [rng.randrange(modes) for _ in range(many)]
    links = set()
    near = [0] * many
    for _ in range(tries if tries is not None else 3 * many):
        if many < 2:
            break
        i, j = sorted(rng.sample(range(many), 2))
        if (i, j) not in links and near[i] < 4 and near[j] < 4:
            links.add((i, j))
            near[i] += 1
            near[j] += 1
    return told, sorted(links)


def all_policies(seed, many):
    """Random policies with 1 to 4 modes, together with scores."""
    # Imported here, so that the counting above stands on its own.
    from handalong.policies import Policy
    rng = dice(seed)
    told = []
    for at in range(many):
        modes = at % 4 + 1
        views = random_policy_views(rng, modes, rng.randint(1, (3, 8, 9, 10)[modes - 1]), most=rng.choice((2, 3, 4)))
        most = rng.choice((1, 5, 1000))
        told.append((Policy(modes, views), tuple(rng.randint(-most, most) for _ in views)))
    return told


# The words with which evidence of some kind begins.
WORDS = ("mean", "none", "best", "better", "least", "lower", "toll", "dead", "most", "free", "collection", "less", "more",
         "never", "network", "forced", "one", "two", "nought", "weights", "clock", "transfer", "element", "every", "ratio",
         "rate", "section", "moved", "shares", "exchange", "weighing", "round", "debts", "pump", "few", "")


def variations(value):
    """Values that differ from a told one at one place."""
    for odd in (None, True, 7, "x", (), [], 1.5, Agreeable()):
        yield odd
    if type(value) is tuple:
        yield list(value)
        yield value + (None,)
        yield value + value[-1:]
        for at in range(len(value)):
            yield value[:at] + value[at + 1:]
            yield value[:at] + value[at:at + 1] + value[at:]
            if at:
                yield value[:at - 1] + (value[at], value[at - 1]) + value[at + 1:]
            for other in variations(value[at]):
                yield value[:at] + (other,) + value[at + 1:]
    elif type(value) is str:
        yield value.upper()
        yield value + " "
        yield value.encode()
        for word in WORDS:
            yield word
    elif type(value) is int:
        for other in (value + 1, value - 1, -value, 2 * value, float(value), str(value)):
            yield other
        if value in (0, 1):
            yield bool(value)


def strict_fraction(value):
    return (type(value) is tuple and len(value) == 2 and type(value[0]) is int and type(value[1]) is int
            and value[1] >= 1 and gcd(*value) == 1)


def strict_transfer(modes, value):
    return type(value) is tuple and len(value) == len(PAIRS[modes]) and all(strict_fraction(t) for t in value)


def strict_view(value):
    if type(value) is not tuple or len(value) != 2 or type(value[0]) is not int or type(value[1]) is not tuple:
        return False
    row = value[1]
    return value[0] in range(4) and len(row) <= 4 and all(type(x) is int and x in range(4) for x in row) \
        and list(row) == sorted(row)


def strict_collection(policy, value):
    """Whether any value is a collection of allowed views."""
    if type(value) is not tuple or not value:
        return False
    for entry in value:
        if type(entry) is not tuple or len(entry) != 2 or not strict_view(entry[0]) or type(entry[1]) is not int:
            return False
        if entry[1] < 1 or entry[0] not in policy.views:
            return False
    views = [view for view, _ in value]
    return all(one < other for one, other in zip(views, views[1:]))


def told(value, word, length):
    return type(value) is tuple and len(value) == length and type(value[0]) is str and value[0] == word


def judge_none(policy, value):
    if not told(value, "none", 2) or not strict_transfer(policy.modes, value[1]):
        return False
    return all(plain_sends(policy.modes, value[1], view) >= 1 for view in policy.views)


def judge_mean(policy, scores, value, sign):
    """Whether any value is right evidence for the least (sign 1) or greatest (sign -1) mean."""
    if judge_none(policy, value):
        return True
    if not told(value, "mean", 4):
        return False
    _, c, lot, transfer = value
    if not strict_fraction(c) or not strict_collection(policy, lot) or not strict_transfer(policy.modes, transfer):
        return False
    if not balanced(lot) or plain_mean(policy, scores, lot) != fraction(c):
        return False
    return all(sign * (left - fraction(c)) >= 0 for left in plain_lefts(policy, scores, transfer))


def judge_tight(policy, scores, value):
    if type(value) is not tuple or len(value) != 3:
        return False
    indexes, lot, transfer = value
    if not strict_collection(policy, lot) or not balanced(lot) or not strict_transfer(policy.modes, transfer):
        return False
    if type(indexes) is not tuple or any(type(at) is not int for at in indexes):
        return False
    if [policy.views[at] for at in indexes if at in range(len(policy.views))] != [view for view, _ in lot]:
        return False
    if len(indexes) != len(lot):
        return False
    c = plain_mean(policy, scores, lot)
    lefts = plain_lefts(policy, scores, transfer)
    return all(left == c if at in indexes else left > c for at, left in enumerate(lefts))


def judge_toll(policy, scores, at, value, c):
    view = policy.views[at]
    if told(value, "dead", 2):
        if not strict_transfer(policy.modes, value[1]):
            return False
        sent = [plain_sends(policy.modes, value[1], other) for other in policy.views]
        return min(sent) >= 0 and sent[at] >= 1
    if not told(value, "toll", 4):
        return False
    _, e, lot, transfer = value
    if not strict_fraction(e) or not strict_collection(policy, lot) or not strict_transfer(policy.modes, transfer):
        return False
    if not balanced(lot) or view not in dict(lot):
        return False
    if plain_total(policy, scores, lot) != c * site_count(lot) + fraction(e) * dict(lot)[view]:
        return False
    lefts = plain_lefts(policy, scores, transfer)
    return min(lefts) >= c and lefts[at] >= c + fraction(e)


def plain_sent(modes, transfer, a, b):
    return plain_sends(modes, transfer, (a, (b,)))


def judge_most(policy, scores, a, b, value, c):
    if told(value, "free", 2):
        if not strict_transfer(policy.modes, value[1]) or plain_sent(policy.modes, value[1], a, b) < 1:
            return False
        return all(plain_sends(policy.modes, value[1], view) <= 0 for view in policy.views)
    if not told(value, "most", 4):
        return False
    _, s, lot, transfer = value
    if not strict_fraction(s) or not strict_collection(policy, lot) or not strict_transfer(policy.modes, transfer):
        return False
    k = half(lot, a, b) - half(lot, b, a)
    others = [p for p in PAIRS[4] if sorted(p) != sorted((a, b))]
    if k < 1 or any(half(lot, x, y) != half(lot, y, x) for x, y in others):
        return False
    if plain_total(policy, scores, lot) != c * site_count(lot) + fraction(s) * k:
        return False
    return min(plain_lefts(policy, scores, transfer)) >= c and plain_sent(policy.modes, transfer, a, b) == fraction(s)


def judge_with(policy, scores, ratio, value):
    r = fraction(ratio)
    if told(value, "collection", 2):
        return strict_collection(policy, value[1]) and balanced(value[1]) and plain_mean(policy, scores, value[1]) == r
    if not told(value, "less", 2) and not told(value, "more", 2):
        return False
    if not strict_transfer(policy.modes, value[1]):
        return False
    lefts = plain_lefts(policy, scores, value[1])
    return all(left > r for left in lefts) if value[0] == "less" else all(left < r for left in lefts)

"""Whether evidence of chapters 6 and 7 is right, by adding alone."""

from fractions import Fraction
from itertools import combinations_with_replacement
from math import gcd

from plain import (balanced, between, fraction, half, plain_elements, plain_mean, plain_sends, plain_total, site_count,
                   strict_collection, strict_fraction, strict_transfer, told)


def plain_live(policy):
    """The views of all least balanced collections."""
    return tuple(sorted({view for lot in plain_elements(policy) for view, _ in lot}))


def balanced_within(policy, value):
    return strict_collection(policy, value) and balanced(value)


def sent_by(policy, transfer):
    return [plain_sends(policy.modes, transfer, view) for view in policy.views]


def judge_live(policy, value):
    if type(value) is not tuple or len(value) != 2:
        return False
    lot, transfer = value
    if not (type(lot) is tuple and lot == ()) and not balanced_within(policy, lot):
        return False
    if not strict_transfer(policy.modes, transfer):
        return False
    have = [view for view, _ in lot]
    return all(sent == 0 if view in have else sent >= 1 for view, sent in zip(policy.views, sent_by(policy, transfer)))


def judge_never(policy, views, value):
    if told(value, "never", 2):
        if not strict_transfer(policy.modes, value[1]):
            return False
        return all(sent >= (view in views) for view, sent in zip(policy.views, sent_by(policy, value[1])))
    return told(value, "network", 2) and balanced_within(policy, value[1]) and any(v in views for v, _ in value[1])


def judge_force(policy, having, some, value):
    if told(value, "network", 2):
        if not balanced_within(policy, value[1]):
            return False
        views = {view for view, _ in value[1]}
        return views >= set(having) and not views & set(some)
    if not told(value, "forced", 3) or not strict_transfer(policy.modes, value[2]):
        return False
    view = value[1]
    sent = {each: amount for each, amount in zip(policy.views, sent_by(policy, value[2])) if each not in some}
    if not having:
        return view is None and all(amount >= 1 for amount in sent.values())
    if not strict_collection(policy, ((view, 1),)) or view not in having:
        return False
    return all(amount >= (each == view) for each, amount in sent.items())


def judge_one(policy, scores, live, value):
    """[30]."""
    if told(value, "one", 3):
        if not strict_fraction(value[1]) or not strict_transfer(policy.modes, value[2]):
            return False
        sent = dict(zip(policy.views, sent_by(policy, value[2])))
        return all(sent[view] == score - fraction(value[1]) for view, score in zip(policy.views, scores) if view in live)
    if not told(value, "two", 3) or not balanced_within(policy, value[1]) or not balanced_within(policy, value[2]):
        return False
    return plain_mean(policy, scores, value[1]) < plain_mean(policy, scores, value[2])


def judge_nought(policy, scores, live, value):
    if told(value, "nought", 2):
        if not strict_transfer(policy.modes, value[1]):
            return False
        sent = sent_by(policy, value[1])
        return all(amount == score for view, amount, score in zip(policy.views, sent, scores) if view in live)
    return told(value, "network", 2) and balanced_within(policy, value[1]) and plain_total(policy, scores, value[1]) != 0


def in_modes(modes, lot):
    return [sum(count for view, count in lot if view[0] == mode) for mode in range(modes)]


def judge_weights(policy, scores, live, value):
    if told(value, "weights", 3):
        weights, transfer = value[1:]
        if type(weights) is not tuple or len(weights) != policy.modes or not all(map(strict_fraction, weights)):
            return False
        if not strict_transfer(policy.modes, transfer):
            return False
        sent = sent_by(policy, transfer)
        return all(fraction(weights[view[0]]) + amount == score
                   for view, amount, score in zip(policy.views, sent, scores) if view in live)
    if not told(value, "two", 3) or not balanced_within(policy, value[1]) or not balanced_within(policy, value[2]):
        return False
    if plain_total(policy, scores, value[1]) == plain_total(policy, scores, value[2]):
        return False
    return in_modes(policy.modes, value[1]) == in_modes(policy.modes, value[2])


def clock_places(modes):
    return list(combinations_with_replacement(range(modes), 2))


def judge_clock(policy, scores, live, m, value):
    """Whether any value is a clock of m that fits the scores."""
    places = clock_places(policy.modes)
    if type(value) is not tuple or len(value) != len(places) or not all(map(strict_fraction, value)):
        return False
    table = {}
    for (a, b), t in zip(places, value):
        table[b, a] = -fraction(t)
        table[a, b] = fraction(t)
    left = [2 * table[a, a] for a in range(policy.modes)]
    for view, score in zip(policy.views, scores):
        if view in live:
            left.append(score - sum((table[view[0], b] for b in view[1]), Fraction(0)))
    return all(amount.denominator == 1 and amount.numerator % m == 0 for amount in left)


def row_has_graph(row):
    """The condition of [12], as it is written."""
    row = sorted(row, reverse=True)
    if sum(row) % 2:
        return False
    return all(sum(row[:k]) <= k * (k - 1) + sum(min(x, k) for x in row[k:]) for k in range(1, min(len(row), 12) + 1))


def rows_have_graph(left, right):
    """The condition of [13]; rows whose numbers are at most 4 need no k above 12."""
    left = sorted(left, reverse=True)
    if sum(left) != sum(right):
        return False
    return all(sum(left[:k]) <= sum(min(x, k) for x in right) for k in range(1, min(len(left), 12) + 1))


def is_of_network(lot):
    """Whether some network has just this collection."""
    if not balanced(lot):
        return False
    for a in range(4):
        for b in range(a, 4):
            left = [between(view, a, b) for view, count in lot for _ in range(count) if view[0] == a]
            right = [between(view, b, a) for view, count in lot for _ in range(count) if view[0] == b]
            if not (row_has_graph(left) if a == b else rows_have_graph(left, right)):
                return False
    return True


def network_within(policy, value):
    return strict_collection(policy, value) and is_of_network(value)


def judge_clock_evidence(policy, scores, live, m, value):
    if told(value, "clock", 2):
        return judge_clock(policy, scores, live, m, value[1])
    if not told(value, "collection", 2) or not network_within(policy, value[1]):
        return False
    return plain_total(policy, scores, value[1]) % m != 0


def judge_size(policy, live, step, value):
    if type(value) is not tuple or len(value) != 2 or not live:
        return False
    clock, lots = value
    if type(lots) is not tuple or not lots or not all(network_within(policy, lot) for lot in lots):
        return False
    common = 0
    for lot in lots:
        common = gcd(common, site_count(lot))
    return common == step and judge_clock(policy, (1,) * len(policy.views), live, step, clock)


def links_within(lot, a, b):
    """How many links a network with this collection has between modes a and b."""
    return half(lot, a, b) // (2 if a == b else 1)

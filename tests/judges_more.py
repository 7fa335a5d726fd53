"""Whether evidence of chapters 8 to 10 is right, by adding alone; corners and chains by plain hulls."""

from fractions import Fraction

from judges import balanced_within, clock_places, judge_clock
from plain import (PAIRS, fraction, half, judge_none, least_solutions, pair, plain_crossings, plain_elements, plain_lefts,
                   plain_mean, plain_sends, plain_total, site_count, strict_collection, strict_fraction, strict_transfer,
                   told)


def judge_ban_evidence(policy, scores, limit, lot, value):
    if told(value, "transfer", 2):
        if not strict_transfer(policy.modes, value[1]):
            return False
        lefts = plain_lefts(policy, scores, value[1])
        return all(left >= fraction(limit) for view, left in zip(policy.views, lefts) if view not in lot)
    if not told(value, "element", 2) or not balanced_within(policy, value[1]):
        return False
    if value[1] not in plain_elements(policy) or plain_mean(policy, scores, value[1]) >= fraction(limit):
        return False
    return not any(view in lot for view, _ in value[1])


def lefts_of(policy, amounts, transfer):
    return [amount - plain_sends(policy.modes, transfer, view) for amount, view in zip(amounts, policy.views)]


def point_of(policy, first, second, lot):
    return (plain_mean(policy, first, lot), plain_mean(policy, second, lot))


def cross(a, b, c):
    return (b[0] - a[0]) * (c[1] - a[1]) - (b[1] - a[1]) * (c[0] - a[0])


def plain_hull(points):
    """The corners of the hull of points, the least one first, counterclockwise."""
    points = sorted(set(points))
    if len(points) == 1:
        return points
    rows = []
    for row in (points, points[::-1]):
        kept = []
        for point in row:
            while len(kept) > 1 and cross(kept[-2], kept[-1], point) <= 0:
                kept.pop()
            kept.append(point)
        rows += kept[:-1]
    return rows


def plain_falling(points):
    """The corners of a hull at which nothing has both entries as low."""
    hull = plain_hull(points)
    last = min(range(len(hull)), key=lambda at: (hull[at][1], hull[at][0]))
    return hull[:last + 1]


def told_points(points):
    return tuple((pair(x), pair(y)) for x, y in points)


def judge_polygon(policy, first, second, corners, value):
    """Whether any value is a right polygon; `corners` as points of fractions of Python."""
    if type(value) is not tuple or len(value) != 3 or any(type(part) is not tuple for part in value):
        return False
    points, lots, transfers = value
    for point in points:
        if type(point) is not tuple or len(point) != 2 or not all(map(strict_fraction, point)):
            return False
    if points != told_points(corners) or len(lots) != len(points):
        return False
    if not all(balanced_within(policy, lot) and point_of(policy, first, second, lot) == at for lot, at in zip(lots, corners)):
        return False
    faces = plain_directions(corners)
    if len(transfers) != len(faces) or not all(strict_transfer(policy.modes, transfer) for transfer in transfers):
        return False
    for (u, v), transfer in zip(faces, transfers):
        lefts = lefts_of(policy, [u * x + v * y for x, y in zip(first, second)], transfer)
        if min(lefts) < min(u * x + v * y for x, y in corners):
            return False
    return True


def plain_directions(corners):
    found = []
    if len(corners) > 1:
        for at, (x, y) in enumerate(corners):
            xx, yy = corners[(at + 1) % len(corners)]
            u, v = y - yy, xx - x
            # The positive multiple without a common divisor.
            scale = abs(u) if v == 0 else abs(v) / Fraction(abs(u) / abs(v)).denominator if u else abs(v)
            found.append((int(u / scale), int(v / scale)))
    return tuple(found) + ((1, 0), (0, 1), (-1, 0), (0, -1))


def judge_ratio(policy, first, second, value):
    if told(value, "none", 2):
        return balanced_within(policy, value[1]) and plain_total(policy, second, value[1]) == 0 \
            and plain_total(policy, first, value[1]) < 0
    if told(value, "every", 3):
        if not strict_transfer(policy.modes, value[1]) or not strict_transfer(policy.modes, value[2]):
            return False
        return min(lefts_of(policy, [-x for x in second], value[1])) >= 0 and min(lefts_of(policy, first, value[2])) >= 0
    if not told(value, "ratio", 4) or not strict_fraction(value[1]) or not balanced_within(policy, value[2]):
        return False
    c = fraction(value[1])
    if plain_total(policy, second, value[2]) <= 0 or not strict_transfer(policy.modes, value[3]):
        return False
    if plain_total(policy, first, value[2]) != c * plain_total(policy, second, value[2]):
        return False
    return min(lefts_of(policy, [x - c * y for x, y in zip(first, second)], value[3])) >= 0


def judge_limited(policy, first, second, limit, value):
    limit = fraction(limit)
    if told(value, "none", 2):
        return strict_transfer(policy.modes, value[1]) and min(lefts_of(policy, second, value[1])) > limit
    if not told(value, "least", 5) or not strict_fraction(value[1]) or not strict_fraction(value[2]) or value[2][0] < 0:
        return False
    _, c, price, lot, transfer = value
    if not balanced_within(policy, lot) or not strict_transfer(policy.modes, transfer):
        return False
    if plain_mean(policy, second, lot) > limit or plain_mean(policy, first, lot) != fraction(c):
        return False
    amounts = [x + fraction(price) * (y - limit) for x, y in zip(first, second)]
    return min(lefts_of(policy, amounts, transfer)) >= fraction(c)


def plain_gap(lot):
    return sum(abs(half(lot, a, b) - half(lot, b, a)) for a, b in PAIRS[4])


def judge_rate(policy, scores, live, price, value):
    if told(value, "none", 2):
        return judge_none(policy, value)
    if not told(value, "rate", 4) or not strict_fraction(value[1]) or not strict_transfer(policy.modes, value[2]):
        return False
    _, c, transfer, lot = value
    if not strict_collection(policy, lot) or not all(view in live for view, _ in lot):
        return False
    if any(abs(fraction(t)) > fraction(price) for t in transfer):
        return False
    lefts = plain_lefts(policy, scores, transfer)
    if min([left for view, left in zip(policy.views, lefts) if view in live], default=fraction(c)) < fraction(c):
        return False
    return plain_total(policy, scores, lot) == fraction(c) * site_count(lot) - fraction(price) * plain_gap(lot)


def rate_points(policy, scores, live):
    """The pairs (gap, total), both for one site, of all least ways to make up for what live views send."""
    many = len(PAIRS[policy.modes])
    columns = [plain_crossings(policy.modes, view) for view in live]
    for at in range(many):
        for sign in (1, -1):
            columns.append(tuple(sign * (at == k) for k in range(many)))
    table = dict(zip(policy.views, scores))
    found = []
    for counts in least_solutions(columns) if many else [{at: 1} for at in range(len(live))]:
        size = sum(n for at, n in counts.items() if at < len(live))
        if size:
            gap = sum(n for at, n in counts.items() if at >= len(live))
            found.append((Fraction(gap, size), Fraction(sum(table[live[at]] * n for at, n in counts.items()
                                                            if at < len(live)), size)))
    return found


def judge_cut(policy, live, cut, value):
    places = clock_places(policy.modes)
    counts = dict(cut)
    net = {(a, b): counts.get((a, b), 0) - (counts.get((b, a), 0) if a != b else 0) for a, b in places}
    if told(value, "clock", 2):
        if not judge_clock(policy, (0,) * len(policy.views), live, 1, value[1]):
            return False
        return sum(net[place] * fraction(t) for place, t in zip(places, value[1])).denominator != 1
    if not told(value, "section", 2) or not strict_collection(policy, value[1]):
        return False
    lot = value[1]
    if not all(view in live for view, _ in lot):
        return False
    for (a, b), many in net.items():
        if a == b and (half(lot, a, a) - many) % 2 or a != b and half(lot, a, b) - half(lot, b, a) != many:
            return False
    return True

"""[48] to [51]: worst ratios, limits, curves, prices, loose sites."""

import unittest
from fractions import Fraction

from judges_more import judge_limited, judge_ratio, plain_falling, point_of
from plain import (ODD, Case, all_policies, dice, fraction, is_told_collection, pair, plain_elements, plain_mean,
                   plain_total, site_count, variations)
from test_polygons import small_cases

from handalong.collected import copies
from handalong.errors import InvalidQuestion, InvalidScore
from handalong.means import least_mean
from handalong.policies import Policy
from handalong.shares import at_price, curve, limited, limited_holds, loose, ratio_holds, worst_ratio
from handalong.tight import tight_views
from handalong.views import all_views


class Ratios(Case):
    def plain_ratio(self, policy, first, second):
        """The word, and c if there is one, by the elements."""
        sums = [(plain_total(policy, first, lot), plain_total(policy, second, lot)) for lot in plain_elements(policy)]
        if any(x < 0 and y == 0 for x, y in sums):
            return ("none",)
        if all(y == 0 for _, y in sums):
            return ("every",)
        return ("ratio", pair(min(Fraction(x, y) for x, y in sums if y > 0)))

    def cases(self, seed, many):
        rng = dice(seed)
        for policy, scores in all_policies(seed, many):
            if plain_elements(policy):
                flat = [0] * len(scores)
                for first in (scores, [abs(x) for x in scores], flat):
                    for second in (flat, [rng.randint(0, 1) for _ in scores], [rng.randint(1, 1000) for _ in scores],
                                   [int(rng.random() < 0.2) for _ in scores]):
                        yield policy, first, second

    def test_random_policies(self):
        words = set()
        for policy, first, second in self.cases(481, 60):
            answer = worst_ratio(policy, first, second)
            plain = self.plain_ratio(policy, first, second)
            words.add(answer[0])
            self.assertEqual(answer[:len(plain)], plain)
            self.assertEqual(len(answer), {"none": 2, "every": 3, "ratio": 4}[answer[0]])
            self.all_tuples(answer)
            self.assertTrue(judge_ratio(policy, first, second, answer), answer)
            self.assertIs(ratio_holds(policy, first, list(second), answer), True)
            for lot in plain_elements(policy)[:6]:
                for value in [("none", lot)] + ([("ratio", answer[1], lot, answer[3])] if answer[0] == "ratio" else []):
                    self.assertIs(ratio_holds(policy, first, second, value), judge_ratio(policy, first, second, value))
        self.assertEqual(words, {"none", "every", "ratio"})

    def test_every(self):
        """Scores that only dead views have."""
        rng = dice(483)
        dead = 0
        for policy, scores in all_policies(483, 250):
            live = {view for lot in plain_elements(policy) for view, _ in lot}
            if live:
                second = [0 if view in live else rng.choice((1, 2, 1000)) for view in policy.views]
                first = [abs(x) if view in live else x for view, x in zip(policy.views, scores)]
                answer = worst_ratio(policy, first, second)
                self.assertEqual(answer[0], "every")
                self.assertTrue(judge_ratio(policy, first, second, answer), (policy.views, first, second, answer))
                dead += max(second) > 0
        self.assertGreater(dead, 30)

    def test_any_value(self):
        for at, (policy, first, second) in enumerate(self.cases(482, 30)):
            if at % 3 == 0:
                for value in variations(worst_ratio(policy, first, second)):
                    self.assertIs(ratio_holds(policy, first, second, value), judge_ratio(policy, first, second, value), value)
            for value in ODD + [(), [], 3, ("none",), ("every", None, None), ("ratio", None, None, None)]:
                self.assertIs(ratio_holds(policy, first, second, value), False)

    def test_by_hand(self):
        policy = Policy(2, [(0, (1,)), (1, (0, 0)), (1, (1, 1))])
        self.assertEqual(worst_ratio(policy, [1, 1, 5], [1, 4, 2])[:3],
                         ("ratio", (1, 2), (((0, (1,)), 2), ((1, (0, 0)), 1))))
        self.assertEqual(worst_ratio(policy=policy, first=[1, 1, -5], second=[1, 4, 0]), ("none", (((1, (1, 1)), 1),)))
        self.assertEqual(worst_ratio(policy, [-1, 1, 5], [1, 4, 0])[:2], ("ratio", (-1, 6)))
        self.assertEqual(worst_ratio(policy, [-1, 3, 5], [0, 0, 0])[0], "every")
        # A dead view may have whatever it has.
        other = Policy(2, [(0, ()), (0, (1,))])
        answer = worst_ratio(other, [2, -9], [0, 3])
        self.assertEqual(answer[0], "every")
        self.assertTrue(judge_ratio(other, [2, -9], [0, 3], answer))
        self.assertIs(ratio_holds(policy=other, first=[2, -9], second=[0, 3], paper=("every", ((3, 1),), ((-9, 1),))), False)
        self.assertIs(ratio_holds(other, [2, -9], [0, 3], ("every", ((-3, 1),), ((-9, 1),))), True)

    def test_errors_in_their_order(self):
        for policy in (Policy(2, [(0, (1,))]), Policy(2, [(0, (1,)), (1, (0,))]), Policy(1, [])):
            scores = [1] * len(policy.views)
            for work in (lambda a, b: worst_ratio(policy, a, b), lambda a, b: ratio_holds(policy, a, b, None)):
                self.refuses_scores(policy, lambda value: work(value, None))
                self.refuses_scores(policy, lambda value: work(scores, value))
                if scores:
                    self.refused(InvalidQuestion, 2, lambda: work(scores, [-1] + scores[1:]))
                    self.refused(InvalidQuestion, 2, lambda: work(scores, scores[1:] + [-1]))
        for policy in (Policy(2, [(0, (1,))]), Policy(1, [])):
            scores = [1] * len(policy.views)
            self.without_network(lambda: worst_ratio(policy, scores, scores))
            self.without_network(lambda: ratio_holds(policy, scores, scores, None))


def plain_limited(points, limit):
    """The least first entry of points of a hull whose second one is at most a limit, or None."""
    found = [x for x, y in points if y <= limit]
    for x, y in points:
        for xx, yy in points:
            if y < limit < yy:
                found.append(x + (limit - y) / (yy - y) * (xx - x))
    return min(found) if found else None


class Limits(Case):
    def limits(self, rng, points):
        tiny = Fraction(1, 10 ** 9)
        low, high = min(y for _, y in points), max(y for _, y in points)
        return (low, low - tiny, low + tiny, high, high + 1, (low + high) / 2, rng.choice(points)[1], Fraction(0),
                (2 * low + high) / 3)

    def test_random_policies(self):
        seen = set()
        for rng, policy, first, second, points, _ in small_cases(491, 40):
            for x in self.limits(rng, points):
                limit = pair(x)
                answer = limited(policy, first, second, limit=limit)
                seen.add(answer[0])
                c = plain_limited(points, x)
                self.assertEqual(answer[:2] if c is not None else answer[:1], ("least", pair(c)) if c is not None else ("none",))
                self.all_tuples(answer)
                self.assertTrue(judge_limited(policy, first, second, limit, answer), answer)
                self.assertIs(limited_holds(policy, first, second, answer, limit=limit), True)
                if answer[0] == "least":
                    self.assertTrue(is_told_collection(answer[3], policy))
                    for lot in plain_elements(policy)[:4] + [copies(answer[3], 2)]:
                        value = answer[:3] + (lot, answer[4])
                        self.assertIs(limited_holds(policy, first, second, value, limit=limit),
                                      judge_limited(policy, first, second, limit, value))
                for other in (pair(x + 1), pair(x - 1)):
                    self.assertIs(limited_holds(policy, first, second, answer, limit=other),
                                  judge_limited(policy, first, second, other, answer))
            self.assertEqual(limited(policy, first, second), limited(policy, first, second, limit=(0, 1)))
        self.assertEqual(seen, {"none", "least"})

    def test_any_value(self):
        for at, (rng, policy, first, second, points, _) in enumerate(small_cases(492, 30)):
            if at % 6 < 2:
                limit = pair(self.limits(rng, points)[at % 9])
                for value in variations(limited(policy, first, second, limit=limit)):
                    self.assertIs(limited_holds(policy, first, second, value, limit=limit),
                                  judge_limited(policy, first, second, limit, value), value)
            for value in ODD + [(), [], 3, ("none",), ("none", None), ("least", None, None, None, None)]:
                self.assertIs(limited_holds(policy, first, second, value), False)

    def test_by_hand(self):
        policy = Policy(1, [(0, ()), (0, (0,)), (0, (0, 0))])
        self.assertEqual(limited(policy, [6, 2, 0], [0, 2, 6], limit=(1, 1)),
                         ("least", (4, 1), (2, 1), (((0, ()), 1), ((0, (0,)), 1)), ()))
        self.assertEqual(limited(policy=policy, first=[6, 2, 0], second=[1, 2, 6]), ("none", ()))
        self.assertEqual(limited(policy, [6, 2, 0], [0, 2, 6], limit=(9, 1))[:3], ("least", (0, 1), (0, 1)))
        self.assertIs(limited_holds(policy=policy, first=[6, 2, 0], second=[0, 2, 6], limit=(1, 1),
                                    paper=("least", (4, 1), (2, 1), (((0, ()), 7), ((0, (0,)), 7)), ())), True)
        self.assertIs(limited_holds(policy, [6, 2, 0], [1, 2, 6], ("none", ()), limit=(1, 1)), False)
        # The limit 0, if none is told.
        self.assertIs(limited_holds(policy, [6, 2, 0], [1, 2, 6], ("none", ())), True)
        self.assertIs(limited_holds(policy, [6, 2, 0], [0, 2, 6], ("none", ())), False)


class Curves(Case):
    def test_random_policies(self):
        sizes = set()
        for rng, policy, first, second, points, _ in small_cases(501, 60):
            told = curve(policy, first, second)
            self.all_tuples(told)
            chain = plain_falling([(y, x) for x, y in points])
            self.assertEqual(told, tuple((pair(y), pair(x)) for y, x in chain))
            sizes.add(min(len(told), 3))
            for at, (limit, c) in enumerate(told):
                self.assertEqual(limited(policy, first, second, limit=limit)[1], c)
                if at:
                    self.assertLess(fraction(told[at - 1][0]), fraction(limit))
            for price in ((0, 1), (1, 1), (1, 3), (1000, 1), (rng.randint(0, 9), 1)):
                value, low, high = at_price(policy, first, second, price=price)
                worth = [c + fraction(price) * limit for limit, c in chain]
                self.assertEqual(fraction(value), min(worth))
                self.assertEqual(fraction(value), min(x + fraction(price) * y for x, y in points))
                met = [each for each, w in zip(told, worth) if w == min(worth)]
                self.assertEqual((low, high), (met[0], met[-1]))
            # At the price of a piece both of its ends are met.
            for (y, x), (yy, xx) in zip(chain, chain[1:]):
                price = pair((x - xx) / (yy - y))
                self.assertEqual(at_price(policy, first, second, price=price)[1:],
                                 ((pair(y), pair(x)), (pair(yy), pair(xx))))
            self.assertEqual(at_price(policy, first, second), at_price(policy, first, second, price=(1, 1)))
        self.assertEqual(sizes, {1, 2, 3})

    def test_by_hand(self):
        policy = Policy(1, [(0, ()), (0, (0,)), (0, (0, 0))])
        told = (((0, 1), (6, 1)), ((2, 1), (2, 1)), ((6, 1), (0, 1)))
        self.assertEqual(curve(policy=policy, first=[6, 2, 0], second=[0, 2, 6]), told)
        self.assertEqual(curve(policy, [0, 2, 6], [0, 2, 6]), (((0, 1), (0, 1)),))
        self.assertEqual(at_price(policy=policy, first=[6, 2, 0], second=[0, 2, 6], price=(2, 1)), ((6, 1), told[0], told[1]))
        self.assertEqual(at_price(policy, [6, 2, 0], [0, 2, 6]), ((4, 1), told[1], told[1]))
        self.assertEqual(at_price(policy, [6, 2, 0], [0, 2, 6], price=(0, 1)), ((0, 1), told[2], told[2]))

    def test_errors_in_their_order(self):
        for policy in (Policy(2, [(0, (1,))]), Policy(2, [(0, (1,)), (1, (0,))]), Policy(1, [])):
            scores = [1] * len(policy.views)
            for work in (lambda a, b: curve(policy, a, b), lambda a, b: at_price(policy, a, b, price=(-1, 1)),
                         lambda a, b: limited(policy, a, b), lambda a, b: limited_holds(policy, a, b, None)):
                self.refuses_scores(policy, lambda value: work(value, None))
                self.refuses_scores(policy, lambda value: work(scores, value))
            for price in ((-1, 1), (-1, 1000)):
                self.refused(InvalidQuestion, 3, lambda: at_price(policy, scores, scores, price=price))
        for policy in (Policy(2, [(0, (1,))]), Policy(1, [])):
            scores = [1] * len(policy.views)
            for work in (curve, at_price, limited, lambda p, a, b: limited_holds(p, a, b, None)):
                self.without_network(lambda: work(policy, scores, scores))
            self.refuses_scores(policy, lambda value: loose(policy, value))
            self.without_network(lambda: loose(policy, scores))
        self.refused(InvalidScore, 1, lambda: curve(Policy(2, [(0, (1,)), (1, (0,))]), [1, None], [None, 1]))
        one = Policy(1, [(0, ())])
        for work in (lambda: limited(one, [1], [1], (0, 1)), lambda: at_price(one, [1], [1], (1, 1)),
                     lambda: limited_holds(one, [1], [1], None, (0, 1))):
            self.assertRaises(TypeError, work)


class Loose(Case):
    def test_random_policies(self):
        sizes = set()
        for policy, scores in all_policies(511, 120):
            known = plain_elements(policy)
            if not known:
                continue
            for row in (scores, [x % 5 for x in scores]):
                least = min(plain_mean(policy, row, lot) for lot in known)
                tight = {view for lot in known if plain_mean(policy, row, lot) == least for view, _ in lot}
                points = []
                for lot in known:
                    share = Fraction(sum(n for view, n in lot if view not in tight), site_count(lot))
                    points.append((plain_mean(policy, row, lot) - least, -share))
                chain = plain_falling(points)
                told = loose(policy, row)
                self.all_tuples(told)
                self.assertEqual(told, tuple((pair(x), pair(-y)) for x, y in chain))
                self.assertEqual(told[0], ((0, 1), (0, 1)))
                sizes.add(min(len(told), 3))
        self.assertEqual(sizes, {1, 2, 3})

    def test_shares_are_within_what_transfers_prove(self):
        for policy, scores in all_policies(512, 60):
            if plain_elements(policy):
                indexes, _, transfer = tight_views(policy, scores)
                least = fraction(least_mean(policy, scores)[1])
                table = {(a, b): fraction(t) for (a, b), t in zip(
                    [(a, b) for a in range(policy.modes) for b in range(a + 1, policy.modes)], transfer)}
                slack = []
                for at, view in enumerate(policy.views):
                    sent = sum(table.get((view[0], b), -table.get((b, view[0]), 0)) for b in view[1])
                    slack.append(scores[at] - sent - least)
                above = [x for at, x in enumerate(slack) if at not in indexes]
                for e, share in loose(policy, scores):
                    if above:
                        self.assertLessEqual(fraction(share), fraction(e) / min(above))

    def test_by_hand(self):
        policy = Policy(2, [(0, (1,)), (1, (0, 0)), (1, (1, 1))])
        self.assertEqual(loose(policy=policy, scores=[1, 1, 3]), (((0, 1), (0, 1)), ((2, 1), (1, 1))))
        self.assertEqual(loose(policy, [1, 1, 1]), (((0, 1), (0, 1)),))
        wide = Policy(2, [(0, ()), (0, (1,)), (1, (0, 0)), (1, ())])
        self.assertEqual(loose(wide, [0, 0, 5, 3]), (((0, 1), (0, 1)), ((1, 1), (1, 1))))

    def test_many_views(self):
        rng = dice(513)
        policy = Policy(3, [view for degree in range(5) for view in all_views(3, degree)])
        scores = [rng.randint(-1000, 1000) for _ in policy.views]
        told = loose(policy, scores)
        slopes = [(fraction(y) - fraction(yy)) / (fraction(x) - fraction(xx)) for (xx, yy), (x, y) in zip(told, told[1:])]
        self.assertTrue(all(slope > 0 for slope in slopes))
        self.assertEqual(slopes, sorted(set(slopes), reverse=True))
        self.assertEqual(told[-1][1], (1, 1))

    def test_the_points_of_the_cases(self):
        for _, policy, first, second, points, hull in small_cases(514, 5):
            self.assertEqual({point_of(policy, first, second, lot) for lot in plain_elements(policy)}, set(points))
            self.assertLessEqual(set(hull), set(points))


if __name__ == "__main__":
    unittest.main()

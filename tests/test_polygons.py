"""[45] to [47]: corners, directions, polygons, points inside and outside, borders."""

import unittest
from fractions import Fraction
from itertools import permutations
from math import gcd

from judges import balanced_within
from judges_more import cross, judge_polygon, plain_directions, plain_falling, plain_hull, point_of, told_points
from plain import ODD, Case, all_policies, dice, fraction, is_told_collection, pair, plain_elements, variations

from handalong.collected import copies, joined
from handalong.errors import InvalidScore
from handalong.policies import Policy
from handalong.polygons import border, corners, directions, outside, polygon, polygon_holds, some_at
from handalong.shares import curve
from handalong.views import all_views


def score_pairs(rng, policy, scores):
    """Pairs of scores whose polygons have area, are segments of all slopes, or one point."""
    other = [rng.randint(-3, 3) for _ in scores]
    few = [rng.randint(0, 2) for _ in scores]
    yield scores, other
    yield few, [rng.randint(-1, 1) for _ in scores]
    yield few, [2 * x + 1 for x in few]
    yield few, [-3 * x for x in few]
    yield few, [7] * len(few)
    yield [-2] * len(few), few
    yield [5] * len(few), [6] * len(few)


def small_cases(seed, many):
    rng = dice(seed)
    for policy, scores in all_policies(seed, many):
        known = plain_elements(policy)
        if known:
            for first, second in score_pairs(rng, policy, scores):
                points = [point_of(policy, first, second, lot) for lot in known]
                yield rng, policy, first, second, points, plain_hull(points)


class Corners(Case):
    def test_random_policies(self):
        sizes = set()
        for _, policy, first, second, _, hull in small_cases(451, 60):
            told = corners(policy, first, second)
            self.all_tuples(told)
            self.assertEqual(told, told_points(hull))
            self.assertEqual(directions(told), plain_directions(hull))
            sizes.add(min(len(told), 5))
        self.assertEqual(sizes, {1, 2, 3, 4, 5})

    def test_points_within_edges(self):
        """With one mode each view has a point of its own; on a small grid many of them are within edges."""
        rng = dice(456)
        policy = Policy(1, [view for degree in range(5) for view in all_views(1, degree)])
        edges = 0
        for _ in range(600):
            first, second = ([rng.randint(0, 4) for _ in range(5)] for _ in range(2))
            points = [(Fraction(x), Fraction(y)) for x, y in zip(first, second)]
            hull = plain_hull(points)
            self.assertEqual(corners(policy, first, second), told_points(hull))
            self.assertEqual(curve(policy, second, first), told_points(plain_falling(points)))
            edges += any(cross(a, b, c) == 0 for a, b, c in permutations(points, 3) if len({a, b, c}) == 3)
        self.assertGreater(edges, 100)
        # The point (3, 3) is found first, on the edge from (2, 4) to (4, 2).
        told = corners(policy, [3, 2, 4, 0, 10], [3, 4, 2, 10, 0])
        self.assertEqual([(x[0], y[0]) for x, y in told], [(0, 10), (2, 4), (4, 2), (10, 0)])

    def test_directions_tell_the_polygon(self):
        for rng, policy, first, second, points, hull in small_cases(452, 30):
            faces = directions(told_points(hull))
            self.assertEqual(faces[-4:], ((1, 0), (0, 1), (-1, 0), (0, -1)))
            self.assertTrue(all(gcd(u, v) == 1 for u, v in faces))
            for x, y in points:
                self.assertTrue(all(u * x + v * y >= min(u * a + v * b for a, b in hull) for u, v in faces))

    def test_many_views(self):
        rng = dice(453)
        for modes, most in ((2, 4), (3, 2), (3, 4)):
            policy = Policy(modes, [view for degree in range(most + 1) for view in all_views(modes, degree)])
            for scale in (1, 3, 1000):
                first = [rng.randint(-scale, scale) for _ in policy.views]
                second = [rng.randint(-scale, scale) for _ in policy.views]
                paper = polygon(policy, first, second)
                hull = [(fraction(x), fraction(y)) for x, y in paper[0]]
                self.assertEqual(hull, plain_hull(hull))
                # The collections are at the corners, and the transfers prove that nothing is outside.
                self.assertTrue(judge_polygon(policy, first, second, hull, paper))
                self.assertIs(polygon_holds(policy, first, second, paper), True)

    def test_by_hand(self):
        policy = Policy(1, [(0, ()), (0, (0,)), (0, (0, 0)), (0, (0, 0, 0))])
        told = corners(policy=policy, first=[0, 2, 0, 1], second=[0, 0, 2, 1])
        self.assertEqual(told, (((0, 1), (0, 1)), ((2, 1), (0, 1)), ((0, 1), (2, 1))))
        self.assertEqual(directions(points=told), ((0, 1), (-1, -1), (1, 0), (1, 0), (0, 1), (-1, 0), (0, -1)))
        one = corners(policy, [3] * 4, [-4] * 4)
        self.assertEqual((one, directions(one)), ((((3, 1), (-4, 1)),), ((1, 0), (0, 1), (-1, 0), (0, -1))))
        two = corners(policy, [0, 2, 4, 2], [1, 2, 3, 2])
        self.assertEqual(two, (((0, 1), (1, 1)), ((4, 1), (3, 1))))
        self.assertEqual(directions(two)[:2], ((-1, 2), (1, -2)))
        self.assertEqual(corners(policy, [1] * 4, [5, 2, 9, 4]), (((1, 1), (2, 1)), ((1, 1), (9, 1))))


class Papers(Case):
    def test_random_policies(self):
        for rng, policy, first, second, _, hull in small_cases(454, 50):
            paper = polygon(policy, first, second)
            self.all_tuples(paper)
            self.assertTrue(all(is_told_collection(lot, policy) for lot in paper[1]))
            self.assertTrue(judge_polygon(policy, first, second, hull, paper), paper)
            self.assertIs(polygon_holds(policy, list(first), tuple(second), paper), True)
            points, lots, transfers = paper
            known = plain_elements(policy)
            others = [(points, tuple(copies(lot, 3) for lot in lots), transfers), (points, lots[::-1], transfers),
                      (points, lots, transfers[::-1]), (points[::-1], lots[::-1], transfers), (points, lots, transfers[:-1]),
                      (points, lots[:-1], transfers), (points, tuple(rng.choice(known) for _ in lots), transfers),
                      (points, tuple(joined(lot, rng.choice(known)) for lot in lots), transfers)]
            for value in others:
                self.assertIs(polygon_holds(policy, first, second, value), judge_polygon(policy, first, second, hull, value))

    def test_any_value(self):
        for at, (_, policy, first, second, _, hull) in enumerate(small_cases(455, 40)):
            if at % 9 == 0 and len(policy.views) < 6:
                for value in variations(polygon(policy, first, second)):
                    self.assertIs(polygon_holds(policy, first, second, value),
                                  judge_polygon(policy, first, second, hull, value), value)
            if at % 9 == 1:
                for value in ODD + [(), [], 3, ((), (), ())]:
                    self.assertIs(polygon_holds(policy, first, second, value), False)


class Points(Case):
    def asked(self, rng, hull):
        """Points at the corners, on and near the border, inside and outside."""
        tiny = Fraction(1, 10 ** 9)
        found = [(Fraction(rng.randint(-9, 9), 4), Fraction(rng.randint(-9, 9), 4))]
        for at, (x, y) in enumerate(hull):
            xx, yy = hull[at - 1]
            middle = ((x + xx) / 2, (y + yy) / 2)
            center = (sum(a for a, _ in hull) / len(hull), sum(b for _, b in hull) / len(hull))
            found += [(x, y), middle, center, ((2 * x + xx) / 3, (2 * y + yy) / 3), ((x + center[0]) / 2, (y + center[1]) / 2)]
            found += [(middle[0] + a * tiny, middle[1] + b * tiny) for a, b in ((1, 0), (-1, 0), (0, 1), (0, -1))]
        return found

    def test_random_policies(self):
        seen = set()
        for rng, policy, first, second, _, hull in small_cases(471, 30):
            faces = plain_directions(hull)
            for x, y in rng.sample(self.asked(rng, hull), 6):
                point = (pair(x), pair(y))
                beyond = [(u, v) for u, v in faces if u * x + v * y < min(u * a + v * b for a, b in hull)]
                told = outside(policy, first, second, point)
                self.assertEqual(told, beyond[0] if beyond else None)
                lot = some_at(policy, first, second, point)
                seen.add(lot is None)
                self.assertEqual(lot is None, bool(beyond))
                if lot is not None:
                    self.assertTrue(is_told_collection(lot, policy))
                    self.assertTrue(balanced_within(policy, lot))
                    self.assertEqual(point_of(policy, first, second, lot), (x, y))
                    self.all_tuples(lot)
        self.assertEqual(seen, {True, False})

    def plain_border(self, hull, x):
        """The least and greatest second entry of points of a hull with a first entry."""
        found = [b for a, b in hull if a == x]
        for at, (a, b) in enumerate(hull):
            aa, bb = hull[at - 1]
            if min(a, aa) < x < max(a, aa):
                found.append(b + (x - a) / (aa - a) * (bb - b))
        return (pair(min(found)), pair(max(found))) if found else None

    def test_borders(self):
        seen = set()
        for rng, policy, first, second, _, hull in small_cases(472, 40):
            low, high = min(x for x, _ in hull), max(x for x, _ in hull)
            tiny = Fraction(1, 10 ** 9)
            for x in (low, high, low - tiny, high + tiny, (low + high) / 2, low + tiny, Fraction(0), rng.choice(hull)[0]):
                told = border(policy, first, second, value=pair(x))
                self.assertEqual(told, self.plain_border(hull, x))
                seen.add(None if told is None else told[0] == told[1])
                if told is not None:
                    self.all_tuples(told)
            self.assertEqual(border(policy, first, second), border(policy, first, second, value=(0, 1)))
        self.assertEqual(seen, {None, True, False})

    def test_by_hand(self):
        policy = Policy(1, [(0, ()), (0, (0,)), (0, (0, 0)), (0, (0, 0, 0))])
        first, second = [0, 2, 0, 1], [0, 0, 2, 1]
        self.assertIsNone(outside(policy=policy, first=first, second=second, point=((1, 1), (1, 1))))
        self.assertEqual(outside(policy, first, second, ((1, 1), (1000001, 1000000))), (-1, -1))
        self.assertEqual(outside(policy, first, second, ((1, 1), (-1, 9))), (0, 1))
        self.assertIsNone(some_at(policy=policy, first=first, second=second, point=((-1, 9), (1, 1))))
        self.assertEqual(some_at(policy, first, second, ((2, 1), (0, 1))), (((0, (0,)), 1),))
        self.assertEqual(border(policy=policy, first=first, second=second), ((0, 1), (2, 1)))
        self.assertEqual(border(policy, first, second, value=(1, 2)), ((0, 1), (3, 2)))
        self.assertEqual(border(policy, first, second, value=(2, 1)), ((0, 1), (0, 1)))
        self.assertIsNone(border(policy, first, second, value=(21, 10)))


class Errors(Case):
    def works(self, policy):
        some = ((0, 1), (0, 1))
        return (lambda a, b: corners(policy, a, b), lambda a, b: polygon(policy, a, b),
                lambda a, b: polygon_holds(policy, a, b, None), lambda a, b: outside(policy, a, b, some),
                lambda a, b: some_at(policy, a, b, some), lambda a, b: border(policy, a, b))

    def test_errors_in_their_order(self):
        for policy in (Policy(2, [(0, (1,))]), Policy(2, [(0, (1,)), (1, (0,))]), Policy(1, [])):
            scores = [1] * len(policy.views)
            for work in self.works(policy):
                self.refuses_scores(policy, lambda value: work(value, None))
                self.refuses_scores(policy, lambda value: work(scores, value))
        self.refused(InvalidScore, 1, lambda: corners(Policy(2, [(0, (1,)), (1, (0,))]), [1, None], [None, 1]))
        for policy in (Policy(2, [(0, (1,))]), Policy(3, [])):
            scores = [1] * len(policy.views)
            for work in self.works(policy):
                self.without_network(lambda: work(scores, scores))

    def test_value_is_passed_by_name(self):
        self.assertRaises(TypeError, lambda: border(Policy(1, [(0, ())]), [1], [1], (1, 1)))

    def test_nothing_is_changed(self):
        policy = Policy(2, [(0, (1,)), (1, (0,)), (1, (1,))])
        first, second = [1, 2, 3], [3, -1, 0]
        polygon_holds(policy, first, second, polygon(policy, first, second))
        border(policy, first, second)
        self.assertEqual((first, second), ([1, 2, 3], [3, -1, 0]))


if __name__ == "__main__":
    unittest.main()

"""[41], [42]: peeling, means of elements, policies put together."""

import unittest
from fractions import Fraction

from judges import balanced_within
from plain import (ODD, Case, all_policies, dice, fraction, pair, plain_elements, plain_mean, strict_collection,
                   strict_fraction, variations)
from test_elementary import chapter_policies

from handalong.collected import copies, joined
from handalong.errors import InvalidCollection, InvalidQuestion
from handalong.means import least_mean
from handalong.peeling import (best_elements, element_means, is_peeling, joined_policy, mixed_elements, mixing_scores,
                               peel)
from handalong.policies import Policy


def plain_peel(known, lot):
    """Again and again the first element whose views are all left, as often as it goes."""
    left = {view: Fraction(count) for view, count in lot}
    found = []
    while any(left.values()):
        element = min(e for e in known if all(left.get(view) for view, _ in e))
        often = min(left[view] / count for view, count in element)
        for view, count in element:
            left[view] -= often * count
        found.append((element, pair(often)))
    return tuple(found)


def judge_peeling(policy, known, lot, value):
    if type(value) not in (list, tuple):
        return False
    left = {view: Fraction(count) for view, count in lot}
    told = []
    for entry in value:
        if type(entry) is not tuple or len(entry) != 2 or not strict_collection(policy, entry[0]):
            return False
        if entry[0] not in known or entry[0] in told or not strict_fraction(entry[1]) or entry[1][0] <= 0:
            return False
        told.append(entry[0])
        for view, count in entry[0]:
            left[view] = left.get(view, 0) - count * fraction(entry[1])
    return not any(left.values())


def some_lots(rng, known):
    """Some balanced collections, by the elements."""
    found = list(known)
    for _ in range(4 if known else 0):
        lot = copies(rng.choice(known), rng.randint(1, 9))
        for _ in range(rng.randint(0, 5)):
            lot = joined(lot, copies(rng.choice(known), rng.randint(1, 9)))
        found.append(lot)
    return found


class Peeling(Case):
    def test_random_policies(self):
        rng = dice(411)
        broken = 0
        for policy in chapter_policies(411, 400):
            known = plain_elements(policy)
            for lot in some_lots(rng, known):
                told = peel(policy, lot)
                self.all_tuples(told)
                self.assertEqual(told, plain_peel(known, lot))
                self.assertEqual(list(told), sorted(told))
                self.assertLessEqual(len(told), len(policy.views))
                for value in (told, list(told), told[::-1]):
                    self.assertIs(is_peeling(policy, lot, value), True)
                broken += any(often[1] != 1 for _, often in told)
        self.assertGreater(broken, 3)

    def test_any_value(self):
        rng = dice(412)
        right = 0
        for policy in chapter_policies(412, 240):
            known = plain_elements(policy)
            for lot in some_lots(rng, known)[-2:]:
                told = peel(policy, lot)
                for value in variations(told):
                    self.assertIs(is_peeling(policy, lot, value), judge_peeling(policy, known, lot, value), value)
                for other in some_lots(rng, known):
                    value = [(element, often) for element, often in peel(policy, other)]
                    self.assertIs(is_peeling(policy, lot, value), judge_peeling(policy, known, lot, value))
                # The same collection, put together from other elements.
                value = [(element, (rng.randint(1, 3), 1)) for element in rng.sample(known, rng.randint(1, len(known)))]
                whole = copies(value[0][0], value[0][1][0])
                for element, often in value[1:]:
                    whole = joined(whole, copies(element, often[0]))
                self.assertIs(is_peeling(policy, whole, value), True)
                right += tuple(sorted(value)) != peel(policy, whole)
        self.assertGreater(right, 2)

    def test_by_hand(self):
        policy = Policy(2, [(0, (0, 1)), (0, (1, 1)), (1, (0, 0)), (1, (1, 1))])
        one, two, three = plain_peel(plain_elements(policy), (((0, (0, 1)), 2), ((0, (1, 1)), 1), ((1, (0, 0)), 2), ((1, (1, 1)), 5)))
        self.assertEqual((one[1], two[1], three[1]), ((1, 1), (1, 1), (5, 1)))
        lot = (((0, (0, 1)), 1), ((0, (1, 1)), 10 ** 30), ((1, (0, 0)), 10 ** 30 + 1))
        self.assertRaises(InvalidCollection, lambda: peel(policy, lot))
        lot = (((0, (0, 1)), 3), ((0, (1, 1)), 10 ** 30), ((1, (0, 0)), 10 ** 30 + 2))
        self.assertRaises(InvalidCollection, lambda: peel(policy, lot))
        lot = (((0, (0, 1)), 6), ((0, (1, 1)), 10 ** 30), ((1, (0, 0)), 10 ** 30 + 3))
        self.assertEqual(peel(policy=policy, collection=lot), (
            ((((0, (0, 1)), 2), ((1, (0, 0)), 1)), (3, 1)), ((((0, (1, 1)), 1), ((1, (0, 0)), 1)), (10 ** 30, 1))))
        half = (((0, (1, 1)), 1), ((1, (0, 0)), 1))
        self.assertIs(is_peeling(policy=policy, collection=half, value=[(half, (1, 1))]), True)
        self.assertIs(is_peeling(policy, half, [(half, (1, 2)), (half, (1, 2))]), False)
        self.assertIs(is_peeling(policy, half, [(half, (2, 2))]), False)
        self.assertIs(is_peeling(policy, half, []), False)
        self.assertIs(is_peeling(policy, half, [(half, (1, 1)), ((((1, (1, 1)), 1),), (0, 1))]), False)

    def test_fractions_are_above_0(self):
        """Four elements such that two of them make the same as the other two."""
        policy = Policy(2, [(0, (0, 1)), (0, (1,)), (1, (0, 1)), (1, (0,))])
        a, b = [((view, 1),) for view in policy.views[:2]]
        c, d = [((view, 1),) for view in policy.views[2:]]
        lot = a + b + c + d
        self.assertEqual(peel(policy, lot), ((a + c, (1, 1)), (b + d, (1, 1))))
        for value, right in (([(a + d, (1, 1)), (b + c, (1, 1))], True), ([(a + c, (1, 1)), (b + d, (1, 1)), (a + d, (0, 1))], False),
                             ([(a + c, (2, 1)), (b + d, (2, 1)), (a + d, (-1, 1)), (b + c, (-1, 1))], False),
                             ([(a + c, (1, 2)), (b + d, (1, 2)), (a + d, (1, 2)), (b + c, (1, 2))], True)):
            self.assertIs(is_peeling(policy, lot, value), right)

    def test_errors(self):
        policy = Policy(2, [(0, (1,)), (1, (0,)), (1, (1,))])
        right = (((0, (1,)), 1), ((1, (0,)), 1))
        wrong = ODD + [(), [], 3, list(right), right[::-1], right[:1], (((0, (0,)), 1),), (((1, (1,)), 0),),
                       (((0, (1,)), 1), ((1, (0,)), 2)), (((1, (1,)), True),), right + right[1:]]
        for value in wrong:
            self.refused(InvalidCollection, 0, lambda: peel(policy, value))
            self.refused(InvalidCollection, 0, lambda: is_peeling(policy, value, None))
        for value in ODD + [(), [], 3, [()], [(right,)], [(right, 1)], [[right, (1, 1)]], [(right, (1, 1), 0)]]:
            self.assertIs(is_peeling(policy, right, value), False)


class Means(Case):
    def test_random_policies(self):
        rng = dice(413)
        for policy in chapter_policies(413, 80):
            known = sorted(plain_elements(policy))
            for most in (1, 1000):
                scores = [rng.randint(-most, most) for _ in policy.views]
                means = [plain_mean(policy, scores, lot) for lot in known]
                self.assertEqual(element_means(policy, scores), tuple(pair(mean) for mean in means))
                best = tuple(lot for lot, mean in zip(known, means) if mean == min(means))
                self.assertEqual(best_elements(policy, tuple(scores)), best)
                self.all_tuples(best_elements(policy, scores))
                if known:
                    # A balanced collection has the least mean exactly if it is peeled into best ones alone.
                    for lot in some_lots(rng, known):
                        self.assertEqual(plain_mean(policy, scores, lot) == min(means),
                                         all(element in best for element, _ in peel(policy, lot)))

    def test_by_hand(self):
        policy = Policy(2, [(0, (1,)), (1, (0, 0)), (1, (1, 1))])
        self.assertEqual(element_means(policy=policy, scores=[1, 4, 2]), ((2, 1), (2, 1)))
        self.assertEqual(len(best_elements(policy=policy, scores=[1, 4, 2])), 2)
        self.assertEqual(best_elements(policy, [1, 4, 1]), ((((1, (1, 1)), 1),),))
        none = Policy(2, [(0, (1,))])
        self.assertEqual((element_means(none, [1]), best_elements(none, [1])), ((), ()))

    def test_scores(self):
        for policy in (Policy(2, [(0, (1,))]), Policy(2, [(0, (1,)), (1, (0,))]), Policy(1, [])):
            for work in (element_means, best_elements):
                self.refuses_scores(policy, lambda value: work(policy, value))


class Together(Case):
    def test_random_policies(self):
        rng = dice(421)
        seen = set()
        for policy in chapter_policies(421, 120):
            views = policy.views
            one = Policy(policy.modes, rng.sample(views, rng.randint(0, len(views))))
            other = Policy(policy.modes, rng.sample(views, rng.randint(0, len(views))))
            both = joined_policy(one, other)
            self.assertEqual(both, Policy(policy.modes, sorted(set(one.views) | set(other.views))))
            known = plain_elements(one) + plain_elements(other)
            mixed = tuple(sorted(lot for lot in plain_elements(both) if lot not in known))
            self.assertEqual(mixed_elements(one, other), mixed)
            self.all_tuples(mixed_elements(one, other))
            scores = mixing_scores(one, other)
            seen.add(scores is None)
            if not mixed:
                self.assertIsNone(scores)
                continue
            first = [view for view, _ in mixed[0]]
            self.assertEqual(scores, tuple(int(view not in first) for view in both.views))
            self.assertEqual(least_mean(both, scores)[1], (0, 1))
            for each in (one, other):
                least = least_mean(each, [x for view, x in zip(both.views, scores) if view in each.views])
                self.assertTrue(least[0] == "none" or fraction(least[1]) > 0)
        self.assertEqual(seen, {True, False})

    def test_by_hand(self):
        one = Policy(2, [(0, (1,)), (1, (1,))])
        other = Policy(2, [(1, (0, 0)), (1, (1,))])
        self.assertEqual(joined_policy(one=one, other=other).views, ((0, (1,)), (1, (0, 0)), (1, (1,))))
        self.assertEqual(mixed_elements(one=one, other=other), ((((0, (1,)), 2), ((1, (0, 0)), 1)),))
        self.assertEqual(mixing_scores(one=one, other=other), (0, 0, 1))
        self.assertIsNone(mixing_scores(one, one))
        self.assertEqual(mixed_elements(Policy(3, []), Policy(3, [])), ())

    def test_unlike_numbers_of_modes(self):
        for work in (joined_policy, mixed_elements, mixing_scores):
            for one, other in ((Policy(1, []), Policy(2, [])), (Policy(3, [(0, (0,))]), Policy(1, [(0, (0,))]))):
                self.refused(InvalidQuestion, 1, lambda: work(one, other))

    def test_what_is_balanced(self):
        for policy, _ in all_policies(422, 20):
            for lot in plain_elements(policy):
                self.assertTrue(balanced_within(policy, lot))


if __name__ == "__main__":
    unittest.main()

"""[21]: best transfers or better ones, least collections or lower ones."""

import unittest
from fractions import Fraction

from plain import (ODD, PAIRS, all_policies, balanced, dice, fraction, is_told_collection, is_told_transfer, pair,
                   plain_elements, plain_lefts, plain_mean)

from handalong.better import best_or_better, least_or_lower
from handalong.collected import copies, joined
from handalong.errors import InvalidScore, InvalidTransfer, NoNetwork
from handalong.means import least_mean
from handalong.policies import Policy
from handalong.views import all_views


def up_to(modes, most):
    return Policy(modes, [view for degree in range(most + 1) for view in all_views(modes, degree)])


class Better(unittest.TestCase):
    def check_transfer(self, policy, scores, transfer, c):
        before = min(plain_lefts(policy, scores, transfer))
        answer = best_or_better(policy, scores, transfer)
        self.assertEqual((type(answer), len(answer)), (tuple, 2))
        self.assertEqual(answer[0], "best" if before == c else "better")
        if before == c:
            self.assertTrue(is_told_collection(answer[1], policy))
            self.assertTrue(balanced(answer[1]))
            lefts = plain_lefts(policy, scores, transfer)
            self.assertEqual({lefts[policy.views.index(view)] for view, _ in answer[1]}, {before})
        else:
            self.assertTrue(is_told_transfer(policy.modes, answer[1]))
            self.assertGreater(min(plain_lefts(policy, scores, answer[1])), before)

    def check_collection(self, policy, scores, lot, c):
        mean = plain_mean(policy, scores, lot)
        answer = least_or_lower(policy, scores, lot)
        self.assertEqual((type(answer), len(answer)), (tuple, 2))
        self.assertEqual(answer[0], "least" if mean == c else "lower")
        if mean == c:
            self.assertTrue(is_told_transfer(policy.modes, answer[1]))
            lefts = plain_lefts(policy, scores, answer[1])
            self.assertGreaterEqual(min(lefts), mean)
            self.assertEqual({lefts[policy.views.index(view)] for view, _ in lot}, {mean})
        else:
            self.assertTrue(is_told_collection(answer[1], policy))
            self.assertTrue(balanced(answer[1]))
            self.assertLess(plain_mean(policy, scores, answer[1]), mean)

    def test_random_policies(self):
        rng = dice(32)
        for policy, scores in all_policies(32, 80):
            answer = least_mean(policy, scores)
            if answer[0] == "none":
                continue
            elements = plain_elements(policy)
            c = min(plain_mean(policy, scores, lot) for lot in elements)
            best = answer[3]
            self.check_transfer(policy, scores, best, c)
            for _ in range(6):
                other = tuple(pair(fraction(t) + Fraction(rng.randint(-3, 3), rng.randint(1, 90))) for t in best)
                self.check_transfer(policy, scores, other, c)
                self.check_transfer(policy, scores, list(other), c)
            self.check_transfer(policy, scores, ((0, 1),) * len(best), c)
            for lot in elements:
                self.check_collection(policy, scores, lot, c)
                self.check_collection(policy, scores, joined(lot, copies(elements[0], 2)), c)

    def test_all_views(self):
        rng = dice(33)
        for modes, most in ((2, 4), (3, 4), (3, 2)):
            policy = up_to(modes, most)
            for scale in (0, 2, 1000):
                scores = [rng.randint(-scale, scale) for _ in policy.views]
                answer = least_mean(policy, scores)
                c = fraction(answer[1])
                self.check_transfer(policy, scores, answer[3], c)
                self.check_collection(policy, scores, answer[2], c)
                for at, view in enumerate(policy.views):
                    if view[1] == () or set(view[1]) == {view[0]}:
                        self.check_collection(policy, scores, ((view, 5),), c)
                for _ in range(5):
                    transfer = tuple((rng.randint(-scale, scale), 1) for _ in PAIRS[modes])
                    self.check_transfer(policy, scores, transfer, c)

    def test_one_mode(self):
        policy = Policy(1, [(0, ()), (0, (0, 0))])
        self.assertEqual(best_or_better(policy, [4, 1], ()), ("best", (((0, (0, 0)), 1),)))
        self.assertEqual(best_or_better(policy=policy, scores=[4, 1], transfer=[])[0], "best")
        self.assertEqual(least_or_lower(policy, [4, 1], (((0, (0, 0)), 9),)), ("least", ()))
        self.assertEqual(least_or_lower(policy=policy, scores=[4, 1], collection=(((0, ()), 2),)),
                         ("lower", (((0, (0, 0)), 1),)))

    def test_errors_in_their_order(self):
        never = Policy(2, [(0, (1,))])
        some = Policy(2, [(0, (1,)), (1, (0,))])
        lot = (((0, (1,)), 1), ((1, (0,)), 1))
        for value in ODD + [[], [1, 2, 3]]:
            for policy, many in ((never, 1), (some, 2)):
                for work in (lambda: best_or_better(policy, value, None), lambda: least_or_lower(policy, value, lot)):
                    with self.assertRaises(InvalidScore) as caught:
                        work()
                    self.assertEqual(caught.exception.at, many)
        with self.assertRaises(InvalidScore) as caught:
            best_or_better(some, [1, True], ((0, 1),))
        self.assertEqual(caught.exception.at, 1)
        for policy in (never, Policy(2, [])):
            scores = [0] * len(policy.views)
            with self.assertRaises(NoNetwork):
                best_or_better(policy, scores, ((0, 1),))
            with self.assertRaises(NoNetwork):
                best_or_better(policy, scores, None)
            with self.assertRaises(NoNetwork):
                least_or_lower(policy, scores, lot)
        with self.assertRaises(InvalidTransfer) as caught:
            best_or_better(some, [0, 0], [(0, 1), (1, 2)])
        self.assertEqual(caught.exception.at, 1)

    def test_nothing_is_changed(self):
        policy = Policy(2, [(0, (1,)), (1, (0,))])
        scores, transfer = [1, 2], [(0, 1)]
        best_or_better(policy, scores, transfer)
        least_or_lower(policy, scores, (((0, (1,)), 1), ((1, (0,)), 1)))
        self.assertEqual((scores, transfer), ([1, 2], [(0, 1)]))


if __name__ == "__main__":
    unittest.main()

"""[23]: tolls, and how much best transfers send."""

import unittest
from fractions import Fraction

from plain import (ODD, PAIRS, all_policies, dice, fraction, is_told_collection, is_told_transfer, judge_most, judge_toll,
                   pair, plain_elements, plain_mean, plain_total, site_count, uneven_elements, variations)

from handalong.collected import copies, joined
from handalong.errors import InvalidQuestion, InvalidScore, NoNetwork
from handalong.margins import is_most_evidence, is_toll_evidence, most_sent, toll
from handalong.means import least_mean
from handalong.policies import Policy
from handalong.tight import tight_views
from handalong.views import all_views


class Tolls(unittest.TestCase):
    def check_told(self, policy, scores, at, answer, c):
        self.assertTrue(judge_toll(policy, scores, at, answer, c), answer)
        self.assertTrue(is_told_transfer(policy.modes, answer[-1]))
        if answer[0] == "toll":
            self.assertTrue(is_told_collection(answer[2], policy))
        self.assertIs(is_toll_evidence(policy, scores, at, answer), True)

    def check(self, policy, scores, at, elements, c):
        view = policy.views[at]
        extras = [(plain_total(policy, scores, lot) - c * site_count(lot)) / dict(lot)[view]
                  for lot in elements if view in dict(lot)]
        answer = toll(policy, scores, at)
        self.check_told(policy, scores, at, answer, c)
        if not extras:
            self.assertEqual((answer[0], len(answer)), ("dead", 2))
            return answer
        self.assertEqual(answer[:2], ("toll", pair(min(extras))))
        for lot in elements:
            for other in (lot, joined(copies(lot, 2), answer[2])):
                value = (*answer[:2], other, answer[3])
                self.assertIs(is_toll_evidence(policy, scores, at, value), judge_toll(policy, scores, at, value, c))
        return answer

    def test_random_policies(self):
        dead = 0
        for policy, scores in all_policies(37, 60):
            elements = plain_elements(policy)
            if not elements:
                continue
            c = min(plain_mean(policy, scores, lot) for lot in elements)
            tight = tight_views(policy, scores)[0]
            for at in range(len(policy.views)):
                answer = self.check(policy, scores, at, elements, c)
                dead += answer[0] == "dead"
                self.assertEqual(at in tight, answer[:2] == ("toll", (0, 1)))
                if at < 3:
                    for value in variations(answer):
                        self.assertIs(is_toll_evidence(policy, scores, at, value),
                                      judge_toll(policy, scores, at, value, c), value)
        self.assertGreater(dead, 5)

    def test_all_views(self):
        rng = dice(38)
        for modes, most in ((1, 4), (2, 4), (3, 4)):
            policy = Policy(modes, [view for degree in range(most + 1) for view in all_views(modes, degree)])
            for scale in (1, 1000):
                scores = [rng.randint(-scale, scale) for _ in policy.views]
                c = fraction(least_mean(policy, scores)[1])
                for at in range(0, len(policy.views), 6):
                    self.check_told(policy, scores, at, toll(policy, scores, at), c)

    def test_by_hand(self):
        policy = Policy(2, [(0, ()), (0, (1,)), (1, (0, 0)), (1, (1, 1))])
        # The path with three sites has the total 11, so each of its ends adds 4, its middle 8.
        self.assertEqual(toll(policy, [1, 4, 3, 6], 1)[:3], ("toll", (4, 1), (((0, (1,)), 2), ((1, (0, 0)), 1))))
        self.assertEqual(toll(policy, [1, 4, 3, 6], 2)[:2], ("toll", (8, 1)))
        self.assertEqual(toll(policy, [1, 4, 3, 6], 3)[:3], ("toll", (5, 1), (((1, (1, 1)), 1),)))
        self.assertEqual(toll(policy=policy, scores=(1, 4, 3, 6), at=0)[:2], ("toll", (0, 1)))
        other = Policy(2, [(0, ()), (0, (1,))])
        answer = toll(other, [5, 0], 1)
        self.assertEqual(answer[0], "dead")
        self.assertTrue(judge_toll(other, [5, 0], 1, answer, Fraction(5)))
        self.assertIs(is_toll_evidence(other, [5, 0], 1, ("dead", ((1, 1),))), True)
        self.assertIs(is_toll_evidence(other, [5, 0], 1, ("dead", ((1, 2),))), False)
        self.assertIs(is_toll_evidence(policy=other, scores=[5, 0], at=0, value=("dead", ((1, 1),))), False)
        one = Policy(1, [(0, ()), (0, (0,))])
        self.assertEqual(toll(one, [3, 7], 1), ("toll", (4, 1), (((0, (0,)), 1),), ()))

    def test_errors_in_their_order(self):
        never = Policy(2, [(0, (1,))])
        some = Policy(2, [(0, (1,)), (1, (0,))])
        for policy, many in ((never, 1), (some, 2)):
            for value in ODD + [[], [1, 2, 3]]:
                for work in (lambda: toll(policy, value, None), lambda: is_toll_evidence(policy, value, None, None)):
                    with self.assertRaises(InvalidScore) as caught:
                        work()
                    self.assertEqual(caught.exception.at, many)
        for policy in (never, Policy(1, [])):
            scores = [1] * len(policy.views)
            for value in ODD + [0, 5]:
                with self.assertRaises(NoNetwork):
                    toll(policy, scores, value)
                with self.assertRaises(NoNetwork):
                    is_toll_evidence(policy, scores, value, None)
        for value in ODD + [-1, 2, (), (0,), [0], (0, (1,))]:
            for work in (lambda: toll(some, [1, 2], value), lambda: is_toll_evidence(some, [1, 2], value, None)):
                with self.assertRaises(InvalidQuestion) as caught:
                    work()
                self.assertEqual(caught.exception.at, 2)
        for value in ODD + [(), [], 3, ("toll",), ("dead",), ("toll", None, None, None), ("dead", None)]:
            self.assertIs(is_toll_evidence(some, [0, 0], 1, value), False)

    def test_nothing_is_changed(self):
        policy = Policy(2, [(0, (1,)), (1, (0,))])
        scores = [1, 2]
        is_toll_evidence(policy, scores, 0, toll(policy, scores, 0))
        is_most_evidence(policy, scores, 0, 1, most_sent(policy, scores, 0, 1))
        self.assertEqual(scores, [1, 2])


class Most(unittest.TestCase):
    def check_told(self, policy, scores, a, b, answer, c):
        self.assertTrue(judge_most(policy, scores, a, b, answer, c), answer)
        self.assertTrue(is_told_transfer(policy.modes, answer[-1]))
        if answer[0] == "most":
            self.assertTrue(is_told_collection(answer[2], policy))
        self.assertIs(is_most_evidence(policy, scores, a, b, answer), True)

    def check(self, policy, scores, a, b, c, elements):
        uneven = uneven_elements(policy, a, b)
        bounds = [(plain_total(policy, scores, lot) - c * site_count(lot)) / k for lot, k in uneven]
        answer = most_sent(policy, scores, a, b)
        self.check_told(policy, scores, a, b, answer, c)
        if not bounds:
            self.assertEqual((answer[0], len(answer)), ("free", 2))
            return answer
        self.assertEqual(answer[:2], ("most", pair(min(bounds))))
        for lot, _ in uneven:
            for other in [lot, copies(lot, 2), joined(lot, answer[2])] + [joined(lot, each) for each in elements]:
                value = (*answer[:2], other, answer[3])
                self.assertIs(is_most_evidence(policy, scores, a, b, value), judge_most(policy, scores, a, b, value, c))
        return answer

    def test_random_policies(self):
        free = 0
        for policy, scores in all_policies(39, 60):
            elements = plain_elements(policy)
            if not elements:
                continue
            c = min(plain_mean(policy, scores, lot) for lot in elements)
            for at, (a, b) in enumerate(PAIRS[policy.modes]):
                for one, other in ((a, b), (b, a)):
                    answer = self.check(policy, scores, one, other, c, elements)
                    free += answer[0] == "free"
                    if at == 0:
                        for value in variations(answer):
                            self.assertIs(is_most_evidence(policy, scores, one, other, value),
                                          judge_most(policy, scores, one, other, value, c), value)
        self.assertGreater(free, 5)

    def test_all_views(self):
        rng = dice(40)
        for modes, most in ((2, 4), (3, 4), (3, 1)):
            policy = Policy(modes, [view for degree in range(most + 1) for view in all_views(modes, degree)])
            for scale in (1, 1000):
                scores = [rng.randint(-scale, scale) for _ in policy.views]
                c = fraction(least_mean(policy, scores)[1])
                for a, b in PAIRS[modes]:
                    for one, other in ((a, b), (b, a)):
                        self.check_told(policy, scores, one, other, most_sent(policy, scores, one, other), c)

    def test_by_hand(self):
        policy = Policy(2, [(0, (0,)), (0, (1, 1)), (1, (0,)), (1, (1,))])
        # c = 1; (0, (1, 1)) with 5 lets 2 t be at most 4, (1, (0,)) with 3 lets -t be at most 2.
        self.assertEqual(most_sent(policy, [1, 5, 3, 2], 0, 1), ("most", (2, 1), (((0, (1, 1)), 1),), ((2, 1),)))
        self.assertEqual(most_sent(policy=policy, scores=(1, 5, 3, 2), a=1, b=0),
                         ("most", (2, 1), (((1, (0,)), 1),), ((-2, 1),)))
        # With as many links there and back in other modes, and with more.
        both = Policy(4, [(0, ()), (0, (1,)), (1, (0,)), (2, (3,)), (0, (2,)), (3, (0,)), (1, (2,)), (1, (3,)), (3, (2,))])
        scores = [5 if view == (0, (1,)) else 1 if view == (1, (0,)) else 0 for view in both.views]
        transfer = most_sent(both, scores, 0, 1)[3]
        lot = (((0, (1,)), 1),)
        self.assertIs(is_most_evidence(both, scores, 0, 1, ("most", (5, 1), lot, transfer)), True)
        for view in [(2, (3,)), (0, (2,)), (3, (0,)), (1, (2,)), (1, (3,)), (3, (2,))]:
            value = ("most", (5, 1), joined(lot, ((view, 1),)), transfer)
            self.assertEqual(plain_total(both, scores, value[2]), 5)
            self.assertIs(is_most_evidence(both, scores, 0, 1, value), False)
        value = ("most", (5, 1), joined(lot, (((2, (3,)), 2), ((3, (2,)), 2))), transfer)
        self.assertIs(is_most_evidence(both, scores, 0, 1, value), True)
        free = Policy(2, [(0, ()), (1, ())])
        for a, b in ((0, 1), (1, 0)):
            answer = most_sent(free, [0, 3], a, b)
            self.assertEqual(answer[0], "free")
            self.assertTrue(judge_most(free, [0, 3], a, b, answer, Fraction(0)))
        self.assertIs(is_most_evidence(free, [0, 3], 0, 1, ("free", ((1, 1),))), True)
        self.assertIs(is_most_evidence(free, [0, 3], 0, 1, ("free", ((1, 2),))), False)
        self.assertIs(is_most_evidence(policy=free, scores=[0, 3], a=1, b=0, value=("free", ((-1, 1),))), True)

    def test_errors_in_their_order(self):
        never = Policy(2, [(0, (1,))])
        some = Policy(2, [(0, (1,)), (1, (0,))])
        for policy, many in ((never, 1), (some, 2)):
            for value in ODD + [[], [1, 2, 3]]:
                for work in (lambda: most_sent(policy, value, 0, 1), lambda: is_most_evidence(policy, value, 0, 1, None)):
                    with self.assertRaises(InvalidScore) as caught:
                        work()
                    self.assertEqual(caught.exception.at, many)
        for policy in (never, Policy(2, [])):
            scores = [1] * len(policy.views)
            with self.assertRaises(NoNetwork):
                most_sent(policy, scores, 0, 1)
            for value in ODD + [("free", ((1, 1),))]:
                with self.assertRaises(NoNetwork):
                    is_most_evidence(policy, scores, 1, 0, value)
        for value in ODD + [(), [], 3, ("most",), ("free",), ("most", None, None, None), ("free", None)]:
            self.assertIs(is_most_evidence(some, [0, 0], 0, 1, value), False)


if __name__ == "__main__":
    unittest.main()

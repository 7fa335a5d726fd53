"""[19], [20]: least and greatest means."""

import unittest
from fractions import Fraction
from math import gcd

from plain import (ODD, PAIRS, all_policies, balanced, dice, fraction, is_told_collection, is_told_transfer, judge_mean,
                   judge_none, only_solution, pair, plain_crossings, plain_elements, plain_mean,
                   random_network_parts, random_policy_views, site_count, variations, walked_views)

from handalong.collected import copies, joined
from handalong.errors import InvalidScore, NoNetwork
from handalong.means import greatest_mean, is_greatest_evidence, is_least_evidence, least_mean, least_network
from handalong.networks import Network, mean
from handalong.policies import Policy
from handalong.views import all_views

# No network: each site sees a one, and none is in mode 1.
NEVER = Policy(2, [(0, (1,)), (0, (0, 1)), (0, (1, 1))])
SIDES = ((least_mean, is_least_evidence, 1), (greatest_mean, is_greatest_evidence, -1))


def up_to(modes, most):
    return Policy(modes, [view for degree in range(most + 1) for view in all_views(modes, degree)])


class Means(unittest.TestCase):
    def check_told(self, policy, scores, answer, sign):
        """What [19] tells of an answer, by adding."""
        self.assertTrue(judge_mean(policy, scores, answer, sign), answer)
        self.assertTrue(is_told_transfer(policy.modes, answer[-1]))
        if answer[0] == "mean":
            lot = answer[2]
            self.assertTrue(is_told_collection(lot, policy))
            self.assertTrue(balanced(lot))
            self.assertEqual(gcd(*[count for _, count in lot]), 1)
            self.assertLessEqual(len(lot), len(PAIRS[policy.modes]) + 1)
            rows = list(zip(*[plain_crossings(policy.modes, view) for view, _ in lot])) or [(0,) * len(lot)]
            self.assertEqual(only_solution(rows), [count for _, count in lot])

    def check(self, policy, scores):
        elements = plain_elements(policy)
        means = [plain_mean(policy, scores, lot) for lot in elements]
        for work, is_evidence, sign in SIDES:
            answer = work(policy, scores)
            self.check_told(policy, scores, answer, sign)
            if not elements:
                self.assertEqual(answer[0], "none")
            else:
                self.assertEqual(answer[:2], ("mean", pair(min(means) if sign == 1 else max(means))))
                self.assertIn(answer[2], elements)
            self.assertIs(is_evidence(policy, scores, answer), True)
            self.check_evidence(policy, scores, answer, elements)

    def check_evidence(self, policy, scores, answer, elements):
        for value in variations(answer):
            self.assertIs(is_least_evidence(policy, scores, value), judge_mean(policy, scores, value, 1), value)
            self.assertIs(is_greatest_evidence(policy, scores, value), judge_mean(policy, scores, value, -1), value)
        if answer[0] == "mean":
            for lot in elements:
                for other in (lot, copies(lot, 3), joined(lot, answer[2])):
                    value = (*answer[:2], other, answer[3])
                    for _, is_evidence, sign in SIDES:
                        self.assertIs(is_evidence(policy, scores, value), judge_mean(policy, scores, value, sign))

    def test_against_all_elements(self):
        none = 0
        for policy, scores in all_policies(26, 80):
            self.check(policy, scores)
            none += not plain_elements(policy)
        self.assertGreater(none, 5)

    def test_twelve_views_with_four_modes(self):
        rng = dice(27)
        for _ in range(6):
            while True:
                policy = Policy(4, random_policy_views(rng, 4, 12, most=4))
                if least_mean(policy, [0] * 12)[0] == "mean":
                    break
            self.check(policy, [rng.randint(-1000, 1000) for _ in range(12)])

    def test_by_hand(self):
        policy = Policy(2, [(0, (1,)), (1, (0, 0)), (1, (1,))])
        self.assertEqual(least_mean(policy, [0, 6, 5])[:3], ("mean", (2, 1), (((0, (1,)), 2), ((1, (0, 0)), 1))))
        self.assertEqual(greatest_mean(policy, [0, 6, 5])[:3], ("mean", (5, 1), (((1, (1,)), 1),)))
        self.assertEqual(least_mean(policy=policy, scores=(0, 0, 0))[1], (0, 1))
        self.assertEqual(greatest_mean(policy=policy, scores=(1, 1, 1))[1], (1, 1))

    def test_one_mode(self):
        policy = Policy(1, [(0, ()), (0, (0, 0, 0))])
        self.assertEqual(least_mean(policy, [5, -3]), ("mean", (-3, 1), (((0, (0, 0, 0)), 1),), ()))
        self.assertEqual(greatest_mean(policy, [5, -3]), ("mean", (5, 1), (((0, ()), 1),), ()))
        self.assertIs(is_least_evidence(policy, [5, -3], ("mean", (-3, 1), (((0, (0, 0, 0)), 7),), ())), True)
        self.assertIs(is_least_evidence(policy, [5, -3], ("mean", (5, 1), (((0, ()), 1),), ())), False)
        self.assertIs(is_greatest_evidence(policy, [5, -3], ("mean", (-3, 1), (((0, (0, 0, 0)), 7),), ())), False)

    def test_no_network(self):
        policies = [Policy(modes, []) for modes in (1, 2, 3, 4)]
        policies += [NEVER, Policy(4, [(0, (1, 2)), (1, (2,)), (2, (3, 3))]), Policy(2, [(1, (0, 1))])]
        for policy in policies:
            scores = [at * 7 - 3 for at in range(len(policy.views))]
            for work, is_evidence, _ in SIDES:
                answer = work(policy, scores)
                self.assertEqual((len(answer), answer[0]), (2, "none"))
                self.assertTrue(judge_none(policy, answer))
                for value in variations(answer):
                    self.assertIs(is_evidence(policy, scores, value), judge_none(policy, value))
            with self.assertRaises(NoNetwork):
                least_network(policy, scores)

    def test_views_without_neighbours(self):
        policy = Policy(3, [(0, ()), (1, ()), (2, (0,))])
        self.assertEqual(least_mean(policy, [4, 3, -100])[:3], ("mean", (3, 1), (((1, ()), 1),)))
        self.assertEqual(greatest_mean(policy, [4, 3, 100])[:3], ("mean", (4, 1), (((0, ()), 1),)))

    def test_all_views(self):
        rng = dice(28)
        most_sites = {(2, 2): 3, (2, 3): 5, (2, 4): 7, (3, 2): 7, (3, 3): 29, (3, 4): 79}
        for (modes, most), bound in most_sites.items():
            policy = up_to(modes, most)
            self.assertLessEqual(len(policy.views), 105)
            for scale in (0, 1, 3, 1000, 1000, 1000):
                scores = [rng.randint(-scale, scale) for _ in policy.views]
                for work, is_evidence, sign in SIDES:
                    answer = work(policy, scores)
                    self.check_told(policy, scores, answer, sign)
                    self.assertLessEqual(site_count(answer[2]), bound)
                    self.assertIs(is_evidence(policy, scores, answer), True)
                    for value in list(variations(answer))[::7]:
                        self.assertIs(is_evidence(policy, scores, value), judge_mean(policy, scores, value, sign))

    def test_few_neighbours_of_each_number(self):
        rng = dice(29)
        for modes in (2, 3):
            for degree in range(5):
                policy = Policy(modes, all_views(modes, degree))
                scores = [rng.randint(-1000, 1000) for _ in policy.views]
                for work, _, sign in SIDES:
                    self.check_told(policy, scores, work(policy, scores), sign)

    def test_a_collection_of_29_sites(self):
        lot = (((0, (0, 1, 1)), 3), ((0, (2, 2, 2)), 8), ((1, (0, 2, 2)), 6), ((2, (0, 0, 1)), 12))
        policy = Policy(3, [view for view, _ in lot])
        self.assertEqual(least_mean(policy, [29, 0, 0, 0])[:3], ("mean", (3, 1), lot))
        network = least_network(policy, [29, 0, 0, 0])
        self.assertEqual(len(network.modes), 58)
        self.assertEqual(mean(policy, [29, 0, 0, 0], network), (3, 1))

    def test_no_network_has_less(self):
        rng = dice(30)
        policy = up_to(3, 4)
        for _ in range(8):
            scores = [rng.randint(-1000, 1000) for _ in policy.views]
            least, greatest = least_mean(policy, scores)[1], greatest_mean(policy, scores)[1]
            for many in (1, 5, 64):
                modes, links = random_network_parts(rng, 3, many)
                views = walked_views(modes, links)
                plain = Fraction(sum(scores[policy.views.index(view)] for view in views), many)
                self.assertLessEqual(fraction(least), plain)
                self.assertGreaterEqual(fraction(greatest), plain)

    def test_least_network(self):
        rng = dice(31)
        policies = [(policy, scores) for policy, scores in all_policies(31, 60)
                    if policy.modes < 4 and all(len(view[1]) < 4 for view in policy.views)]
        policies += [(up_to(modes, 3), [rng.randint(-1000, 1000) for _ in up_to(modes, 3).views])
                     for modes in (1, 2, 3) for _ in range(8)]
        for policy, scores in policies:
            answer = least_mean(policy, scores)
            if answer[0] == "none":
                with self.assertRaises(NoNetwork):
                    least_network(policy, scores)
                continue
            network = least_network(policy, scores)
            self.assertIs(type(network), Network)
            self.assertLessEqual(len(network.modes), 64)
            views = walked_views(network.modes, network.links)
            self.assertTrue(all(view in policy.views for view in views))
            plain = Fraction(sum(scores[policy.views.index(view)] for view in views), len(views))
            self.assertEqual(pair(plain), answer[1])
        self.assertEqual(least_network(policy=Policy(1, [(0, (0,))]), scores=[3]), Network([0, 0], [(0, 1)]))

    def test_scores_are_refused(self):
        for policy in (Policy(2, [(0, (0,)), (1, (1,))]), NEVER):
            many = len(policy.views)
            for work in (least_mean, greatest_mean, least_network):
                self.check_scores(many, lambda scores: work(policy, scores))
            for work in (is_least_evidence, is_greatest_evidence):
                self.check_scores(many, lambda scores: work(policy, scores, None))

    def check_scores(self, many, work):
        for value in ODD + [[], [1] * (many + 1), (1,) * (many - 1)]:
            with self.assertRaises(InvalidScore) as caught:
                work(value)
            self.assertEqual(caught.exception.at, many)
        for value in ODD:
            with self.assertRaises(InvalidScore) as caught:
                work([1, value, None])
            self.assertEqual(caught.exception.at, 1)

    def test_evidence_of_any_value(self):
        policy = Policy(2, [(0, (0,)), (1, (1,))])
        for value in ODD + [(), [], 3, ("mean",), ("none",), ("mean", (0, 1)), ("none", ()), ("mean", None, None, None)]:
            self.assertIs(is_least_evidence(policy, [0, 0], value), False)
            self.assertIs(is_greatest_evidence(policy, [0, 0], value), False)
        value = ("mean", (0, 1), (((0, (0,)), 1),), ((0, 1),))
        self.assertIs(is_least_evidence(policy=policy, scores=[0, 0], value=value), True)
        self.assertIs(is_greatest_evidence(policy=policy, scores=[0, 0], value=value), True)

    def test_nothing_is_changed(self):
        policy = Policy(2, [(0, (0,)), (1, (1,))])
        scores = [4, 2]
        least_mean(policy, scores)
        greatest_mean(policy, scores)
        least_network(policy, scores)
        self.assertEqual((policy, scores), (Policy(2, [(0, (0,)), (1, (1,))]), [4, 2]))


if __name__ == "__main__":
    unittest.main()

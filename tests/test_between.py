"""[24]: means between the least and the greatest one."""

import unittest
from fractions import Fraction

from plain import (ODD, all_policies, balanced, dice, fraction, is_told_collection, is_told_transfer, judge_with, pair,
                   plain_elements, plain_mean, variations)

from handalong.between import is_with_evidence, with_mean
from handalong.collected import copies, joined
from handalong.errors import InvalidScore, NoNetwork
from handalong.means import greatest_mean, least_mean
from handalong.policies import Policy
from handalong.views import all_views


def asked(rng, least, greatest):
    """Fractions with denominators up to 20 at, just inside and just outside of both, and others."""
    found = [Fraction(rng.randint(-1100 * q, 1100 * q), q) for q in (1, 7, 20)]
    for edge in (least, greatest):
        for q in (1, 13, 19, 20):
            below = Fraction(edge.numerator * q // edge.denominator, q)
            found += [below - Fraction(1, q), below, below + Fraction(1, q)]
        if edge.denominator <= 20:
            found.append(edge)
    found += [(least + greatest).limit_denominator(20) / 2, Fraction(0)]
    return [value for value in found if value.denominator <= 20]


class Between(unittest.TestCase):
    def check(self, policy, scores, ratio, least, greatest):
        answer = with_mean(policy, scores, ratio)
        value = fraction(ratio)
        word = "less" if value < least else "more" if value > greatest else "collection"
        self.assertEqual((type(answer), len(answer), answer[0]), (tuple, 2, word))
        self.assertTrue(judge_with(policy, scores, ratio, answer), answer)
        if word == "collection":
            self.assertTrue(is_told_collection(answer[1], policy))
            self.assertTrue(balanced(answer[1]))
            self.assertEqual(plain_mean(policy, scores, answer[1]), value)
        else:
            self.assertTrue(is_told_transfer(policy.modes, answer[1]))
        self.assertIs(is_with_evidence(policy, scores, ratio, answer), True)
        return answer

    def test_random_policies(self):
        rng = dice(41)
        words = set()
        for policy, scores in all_policies(41, 60):
            elements = plain_elements(policy)
            if not elements:
                continue
            means = [plain_mean(policy, scores, lot) for lot in elements]
            for value in asked(rng, min(means), max(means)):
                ratio = pair(value)
                answer = self.check(policy, scores, ratio, min(means), max(means))
                words.add(answer[0])
                if rng.random() < 0.2:
                    for other in variations(answer):
                        self.assertIs(is_with_evidence(policy, scores, ratio, other),
                                      judge_with(policy, scores, ratio, other), other)
                for lot in elements:
                    other = ("collection", joined(lot, copies(elements[-1], 2)))
                    self.assertIs(is_with_evidence(policy, scores, ratio, other), judge_with(policy, scores, ratio, other))
        self.assertEqual(words, {"less", "more", "collection"})

    def test_all_views(self):
        rng = dice(42)
        for modes in (2, 3):
            policy = Policy(modes, [view for degree in range(5) for view in all_views(modes, degree)])
            for scale in (0, 2, 1000):
                scores = [rng.randint(-scale, scale) for _ in policy.views]
                least, greatest = fraction(least_mean(policy, scores)[1]), fraction(greatest_mean(policy, scores)[1])
                for value in asked(rng, least, greatest):
                    self.check(policy, scores, pair(value), least, greatest)

    def test_by_hand(self):
        policy = Policy(2, [(0, (1,)), (1, (0, 0)), (1, (1,))])
        # The path has the mean 2, the pair of ones the mean 5.
        path, ones = (((0, (1,)), 2), ((1, (0, 0)), 1)), (((1, (1,)), 1),)
        self.assertEqual(with_mean(policy, [0, 6, 5], (2, 1)), ("collection", path))
        self.assertEqual(with_mean(policy=policy, scores=(0, 6, 5), ratio=(5, 1)), ("collection", ones))
        for ratio, word in [((39, 20), "less"), ((41, 20), "collection"), ((99, 20), "collection"), ((101, 20), "more"),
                            ((-7, 3), "less"), ((1000, 1), "more")]:
            self.assertEqual(self.check(policy, [0, 6, 5], ratio, 2, 5)[0], word)
        one = Policy(1, [(0, ()), (0, (0,))])
        self.assertEqual(with_mean(one, [0, 1], (1, 3)), ("collection", (((0, ()), 2), ((0, (0,)), 1))))
        self.assertEqual(with_mean(one, [0, 1], (-1, 3)), ("less", ()))
        self.assertEqual(with_mean(one, [0, 1], (4, 3)), ("more", ()))
        self.assertIs(is_with_evidence(one, [0, 1], (4, 3), ("more", ())), True)
        self.assertIs(is_with_evidence(one, [0, 1], (1, 1), ("more", ())), False)
        self.assertIs(is_with_evidence(one, [0, 1], (0, 1), ("less", ())), False)
        self.assertIs(is_with_evidence(policy=one, scores=[0, 1], ratio=(-1, 1), value=("less", ())), True)
        self.assertIs(is_with_evidence(one, [0, 1], (-1, 1), ("less", [])), False)

    def test_errors_in_their_order(self):
        never = Policy(2, [(0, (1,))])
        some = Policy(2, [(0, (1,)), (1, (0,))])
        for policy, many in ((never, 1), (some, 2)):
            for value in ODD + [[], [1, 2, 3]]:
                for work in (lambda: with_mean(policy, value, (0, 1)), lambda: is_with_evidence(policy, value, (0, 1), None)):
                    with self.assertRaises(InvalidScore) as caught:
                        work()
                    self.assertEqual(caught.exception.at, many)
        for policy in (never, Policy(1, [])):
            scores = [1] * len(policy.views)
            with self.assertRaises(NoNetwork):
                with_mean(policy, scores, (0, 1))
            for value in ODD + [("less", ()), ("more", ()), ("less", ((1, 1),))]:
                with self.assertRaises(NoNetwork):
                    is_with_evidence(policy, scores, (0, 1), value)
        for value in ODD + [(), [], 3, ("less",), ("more",), ("collection",), ("less", None), ("collection", ())]:
            self.assertIs(is_with_evidence(some, [0, 0], (0, 1), value), False)

    def test_nothing_is_changed(self):
        policy = Policy(2, [(0, (1,)), (1, (0,))])
        scores = [1, 2]
        is_with_evidence(policy, scores, (1, 1), with_mean(policy, scores, (1, 1)))
        self.assertEqual(scores, [1, 2])


if __name__ == "__main__":
    unittest.main()

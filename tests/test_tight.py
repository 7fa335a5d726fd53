"""[22]: tight views."""

import unittest

from plain import (ODD, all_policies, dice, fraction, is_told_collection, is_told_transfer, judge_tight, plain_elements,
                   plain_mean, variations)

from handalong.collected import copies, joined
from handalong.errors import InvalidScore, NoNetwork
from handalong.means import least_mean
from handalong.policies import Policy
from handalong.tight import is_tight_evidence, tight_views
from handalong.views import all_views


class Tight(unittest.TestCase):
    def check_told(self, policy, scores, answer):
        self.assertTrue(judge_tight(policy, scores, answer), answer)
        self.assertEqual(list(answer[0]), sorted(set(answer[0])))
        self.assertTrue(is_told_collection(answer[1], policy))
        self.assertTrue(is_told_transfer(policy.modes, answer[2]))
        self.assertIs(is_tight_evidence(policy, scores, answer), True)

    def test_random_policies(self):
        for policy, scores in all_policies(34, 100):
            elements = plain_elements(policy)
            if not elements:
                with self.assertRaises(NoNetwork):
                    tight_views(policy, scores)
                continue
            least = min(plain_mean(policy, scores, lot) for lot in elements)
            views = {view for lot in elements if plain_mean(policy, scores, lot) == least for view, _ in lot}
            answer = tight_views(policy, scores)
            self.assertEqual(answer[0], tuple(at for at, view in enumerate(policy.views) if view in views))
            self.check_told(policy, scores, answer)
            for value in variations(answer):
                self.assertIs(is_tight_evidence(policy, scores, value), judge_tight(policy, scores, value), value)
            for lot in elements:
                for other in (copies(answer[1], 4), joined(answer[1], lot), lot):
                    value = (answer[0], other, answer[2])
                    self.assertIs(is_tight_evidence(policy, scores, value), judge_tight(policy, scores, value))
                    spots = tuple(policy.spot(view) for view, _ in other)
                    value = (spots, other, answer[2])
                    self.assertIs(is_tight_evidence(policy, scores, value), judge_tight(policy, scores, value))

    def test_equal_scores_leave_all_live_views_tight(self):
        for policy, _ in all_policies(35, 60):
            elements = plain_elements(policy)
            if elements:
                live = {view for lot in elements for view, _ in lot}
                scores = (7,) * len(policy.views)
                answer = tight_views(policy, scores)
                self.assertEqual({policy.views[at] for at in answer[0]}, live)
                self.check_told(policy, scores, answer)

    def test_all_views(self):
        rng = dice(36)
        for modes in (2, 3):
            for most in (2, 4):
                policy = Policy(modes, [view for degree in range(most + 1) for view in all_views(modes, degree)])
                for scale in (0, 1, 2, 1000):
                    scores = [rng.randint(-scale, scale) for _ in policy.views]
                    answer = tight_views(policy, scores)
                    self.check_told(policy, scores, answer)
                    self.assertEqual(plain_mean(policy, scores, answer[1]), fraction(least_mean(policy, scores)[1]))
                    for value in list(variations(answer))[::9]:
                        self.assertIs(is_tight_evidence(policy, scores, value), judge_tight(policy, scores, value))

    def test_by_hand(self):
        policy = Policy(2, [(0, ()), (0, (1,)), (1, (0, 0)), (1, (1,))])
        indexes, lot, transfer = tight_views(policy, [1, 0, 3, 1])
        self.assertEqual(indexes, (0, 1, 2, 3))
        self.assertEqual(transfer, ((-1, 1),))
        self.assertEqual(tight_views(policy, [1, 0, 4, 2])[0], (0,))
        self.assertEqual(tight_views(policy=policy, scores=(2, 0, 3, 2))[:2], ((1, 2), (((0, (1,)), 2), ((1, (0, 0)), 1))))
        self.check_slack()
        one = Policy(1, [(0, ()), (0, (0,))])
        self.assertEqual(tight_views(one, [3, 2]), ((1,), (((0, (0,)), 1),), ()))
        self.assertIs(is_tight_evidence(one, [3, 2], ((1,), (((0, (0,)), 6),), ())), True)
        self.assertIs(is_tight_evidence(policy=one, scores=[3, 2], value=((True,), (((0, (0,)), 6),), ())), False)
        self.assertIs(is_tight_evidence(one, [3, 3], ((1,), (((0, (0,)), 6),), ())), False)
        self.assertIs(is_tight_evidence(one, [3, 3], ((0, 1), (((0, ()), 1), ((0, (0,)), 1)), ())), True)

    def check_slack(self):
        """Only the view without neighbours is tight; the others have to share what they have above it."""
        for near in range(1, 5):
            for far in range(1, 5):
                policy = Policy(2, [(0, ()), (0, (1,) * near), (1, (0,) * far)])
                for one in range(4):
                    for other in range(4):
                        if one or other:
                            scores = (-1, one - 1, other - 1)
                            answer = tight_views(policy, scores)
                            self.assertEqual(answer[:2], ((0,), (((0, ()), 1),)))
                            self.check_told(policy, scores, answer)

    def test_errors_in_their_order(self):
        never = Policy(2, [(0, (1,))])
        some = Policy(2, [(0, (1,)), (1, (0,))])
        for policy, many in ((never, 1), (some, 2)):
            for value in ODD + [[], [1, 2, 3]]:
                for work in (lambda: tight_views(policy, value), lambda: is_tight_evidence(policy, value, None)):
                    with self.assertRaises(InvalidScore) as caught:
                        work()
                    self.assertEqual(caught.exception.at, many)
        for policy in (never, Policy(1, []), Policy(3, [])):
            scores = [1] * len(policy.views)
            with self.assertRaises(NoNetwork):
                tight_views(policy, scores)
            for value in ODD + [((), (), ((0, 1),)), ((0,), (((0, (1,)), 1),), ((0, 1),))]:
                with self.assertRaises(NoNetwork):
                    is_tight_evidence(policy, scores, value)
        for value in ODD + [(), [], 3, ((), (), ())]:
            self.assertIs(is_tight_evidence(some, [0, 0], value), False)

    def test_nothing_is_changed(self):
        policy = Policy(2, [(0, (1,)), (1, (0,))])
        scores = [1, 2]
        answer = tight_views(policy, scores)
        is_tight_evidence(policy, scores, answer)
        self.assertEqual(scores, [1, 2])


if __name__ == "__main__":
    unittest.main()

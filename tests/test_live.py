"""[25], [26]: live and dead views, tidy policies."""

import unittest

from judges import judge_live, plain_live
from plain import (ODD, Case, all_policies, balanced, dice, is_told_collection, is_told_transfer, plain_elements,
                   random_policy_views, variations)

from handalong.collected import copies, joined
from handalong.live import (alike, dead_views, is_live_evidence, live_evidence, live_modes, live_views, narrower, tidy)
from handalong.policies import Policy
from handalong.views import all_views


class Live(Case):
    def check_told(self, policy, answer):
        self.assertTrue(judge_live(policy, answer), answer)
        self.assertIs(is_live_evidence(policy, answer), True)
        self.assertTrue(is_told_transfer(policy.modes, answer[1]))
        self.all_tuples(answer)
        if answer[0]:
            self.assertTrue(is_told_collection(answer[0], policy))

    def test_random_policies(self):
        kinds = set()
        for policy, _ in all_policies(251, 160):
            live = plain_live(policy)
            self.assertEqual(live_views(policy), live)
            self.assertEqual(dead_views(policy), tuple(view for view in policy.views if view not in live))
            self.assertEqual(live_modes(policy), tuple(sorted({view[0] for view in live})))
            answer = live_evidence(policy)
            self.assertEqual(tuple(view for view, _ in answer[0]), live)
            self.check_told(policy, answer)
            kinds.add((bool(live), len(live) == len(policy.views)))
        self.assertEqual(kinds, {(False, False), (True, False), (True, True)})

    def test_any_value_as_evidence(self):
        for policy, _ in all_policies(252, 60):
            answer = live_evidence(policy)
            for value in variations(answer):
                self.assertIs(is_live_evidence(policy, value), judge_live(policy, value), value)
            for lot in plain_elements(policy):
                for other in (lot, copies(answer[0], 3), joined(answer[0], lot)):
                    value = (other, answer[1])
                    self.assertIs(is_live_evidence(policy, value), judge_live(policy, value))

    def test_all_views(self):
        for modes, most in ((1, 4), (2, 4), (3, 2), (3, 4)):
            policy = Policy(modes, [view for degree in range(most + 1) for view in all_views(modes, degree)])
            self.assertEqual((live_views(policy), dead_views(policy)), (policy.views, ()))
            self.check_told(policy, live_evidence(policy))

    def test_by_hand(self):
        policy = Policy(3, [(0, (1,)), (1, (0, 0)), (2, (0,)), (1, (2,))])
        self.assertEqual(live_views(policy), ((0, (1,)), (1, (0, 0))))
        self.assertEqual(dead_views(policy=policy), ((1, (2,)), (2, (0,))))
        self.assertEqual(live_modes(policy), (0, 1))
        self.assertEqual(live_evidence(policy)[0], (((0, (1,)), 2), ((1, (0, 0)), 1)))
        self.assertEqual(tidy(policy), Policy(3, [(0, (1,)), (1, (0, 0))]))
        self.assertEqual(live_views(Policy(2, [(0, (1,))])), ())
        empty = Policy(2, [])
        self.assertEqual((live_views(empty), dead_views(empty), live_modes(empty)), ((), (), ()))
        self.assertIs(is_live_evidence(empty, ((), ((-5, 3),))), True)
        one = Policy(1, [(0, ())])
        self.assertEqual(live_evidence(one), ((((0, ()), 1),), ()))
        self.assertIs(is_live_evidence(policy=one, value=((((0, ()), 7),), ())), True)
        self.assertIs(is_live_evidence(one, ((), ())), False)
        dead = Policy(2, [(0, (1,))])
        self.assertIs(is_live_evidence(dead, ((), ((1, 1),))), True)
        self.assertIs(is_live_evidence(dead, ((), ((1, 2),))), False)
        self.assertIs(is_live_evidence(dead, ([], ((1, 1),))), False)
        for value in ODD + [(), 3, ((), ()), ((), ((1, 1),), ())]:
            self.assertIs(is_live_evidence(policy, value), False)


class Tidy(Case):
    def test_random_policies(self):
        for policy, _ in all_policies(261, 80):
            told = tidy(policy)
            self.assertEqual((told.modes, told.views), (policy.modes, plain_live(policy)))
            self.assertEqual(tidy(told), told)
            self.assertIs(alike(policy, told), True)
            self.assertIs(narrower(policy, told), True)
            self.assertIs(narrower(told, policy), True)

    def test_pairs(self):
        rng = dice(262)
        pool = random_policy_views(rng, 2, 12, most=2)
        seen = set()
        for _ in range(300):
            one = Policy(rng.choice((2, 3)), rng.sample(pool, rng.randint(0, 5)))
            other = Policy(rng.choice((2, 4)), rng.sample(pool, rng.randint(0, 8)))
            wider = all(all(view in other.views for view, _ in lot) for lot in plain_elements(one))
            self.assertIs(narrower(one, other), wider)
            self.assertIs(alike(one, other), plain_live(one) == plain_live(other))
            seen.add((wider, plain_live(one) == plain_live(other)))
        self.assertEqual(seen, {(False, False), (True, False), (True, True)})

    def test_by_hand(self):
        one = Policy(2, [(0, (0,)), (0, (1,))])
        other = Policy(1, [(0, (0,))])
        self.assertIs(narrower(one=one, other=other), True)
        self.assertIs(alike(one=one, other=other), True)
        none = Policy(4, [(3, (2,))])
        self.assertIs(narrower(none, Policy(1, [])), True)
        self.assertIs(alike(none, Policy(1, [])), True)
        self.assertIs(narrower(other, none), False)


class Balanced(Case):
    def test_the_told_collection_is_balanced(self):
        for policy, _ in all_policies(253, 60):
            lot = live_evidence(policy)[0]
            self.assertTrue(balanced(lot))


if __name__ == "__main__":
    unittest.main()

"""[39], [40]: elements, lots that are shown."""

import unittest
from itertools import combinations
from math import gcd

from judges import balanced_within, plain_live
from plain import (ODD, Case, all_policies, dice, is_told_collection, plain_elements, plain_total, random_policy_views,
                   site_count, variations)

from handalong.collected import copies, joined
from handalong.elementary import all_elements, elements_within, is_element, is_shown, shown_lots, shown_part
from handalong.errors import InvalidView
from handalong.policies import Policy
from handalong.views import all_views

WRONG_ENTRIES = ODD + [(0, ()), (0, [1]), [0, (1,)], (0, (0,)), (2, (0,)), (False, (1,)), (0, (True,)), 5, (), []]


def chapter_policies(seed, many):
    """Random policies with at most 8 views, with more than two modes at most 6."""
    rng = dice(seed)
    for at in range(many):
        modes = at % 4 + 1
        views = random_policy_views(rng, modes, rng.randint(0, (3, 8, 6, 6)[modes - 1]), most=rng.choice((2, 3, 4)))
        yield Policy(modes, views)


def refuses_lots(case, policy, work):
    """That work with a lot refuses wrong ones; the policy allows (0, (1,)) and (1, (0,))."""
    for value in ODD:
        case.refused(InvalidView, 0, lambda: work(value))
    for odd in WRONG_ENTRIES + [(0, (1,))]:
        case.refused(InvalidView, 1, lambda: work([(0, (1,)), odd]))
        case.refused(InvalidView, 2, lambda: work(((1, (0,)), (0, (1,)), odd, odd)))
    for odd in WRONG_ENTRIES:
        case.refused(InvalidView, 0, lambda: work([odd, odd]))
    for value in ([], (), [(1, (0,)), (0, (1,))], ((1, (0,)),)):
        work(value)


class Elements(Case):
    def test_random_policies(self):
        many = 0
        for policy in chapter_policies(391, 400):
            told = all_elements(policy)
            self.all_tuples(told)
            self.assertEqual(list(told), sorted(plain_elements(policy)))
            many += len(told)
            for lot in told:
                self.assertTrue(is_told_collection(lot, policy))
                self.assertIs(is_element(policy, lot), True)
                self.assertLessEqual(len(lot), policy.modes * (policy.modes - 1) // 2 + 1)
        self.assertGreater(many, 200)

    def test_any_value(self):
        for policy in chapter_policies(392, 160):
            known = plain_elements(policy)
            for lot in known[:4]:
                values = list(variations(lot)) + [copies(lot, 2), copies(lot, 10 ** 30)] + [joined(lot, other) for other in known]
                for value in values:
                    right = balanced_within(policy, value) and any(type(value) is tuple and value == other for other in known)
                    self.assertIs(is_element(policy, value), right, value)
            for value in ODD + [(), [], 3]:
                self.assertIs(is_element(policy, value), False)

    def test_two_modes(self):
        """As the document tells the elements with the modes 0 and 1."""
        rng = dice(393)
        pool = [view for degree in range(5) for view in all_views(2, degree)]
        for _ in range(60):
            policy = Policy(2, rng.sample(pool, 8))
            found = [((view, 1),) for view in policy.views if 1 - view[0] not in view[1]]
            for one in policy.views:
                for other in policy.views:
                    k, l = one[1].count(1), other[1].count(0)
                    if one[0] == 0 and other[0] == 1 and k and l:
                        found.append(((one, l // gcd(k, l)), (other, k // gcd(k, l))))
            self.assertEqual(all_elements(policy), tuple(sorted(found)))

    def test_facts(self):
        rng = dice(394)
        for policy in chapter_policies(394, 60):
            told = all_elements(policy)
            self.assertEqual({view for lot in told for view, _ in lot}, set(plain_live(policy)))
            lots = [{view for view, _ in lot} for lot in told]
            self.assertFalse(any(one <= other for at, one in enumerate(lots) for k, other in enumerate(lots) if at != k))
            views = rng.sample(policy.views, rng.randint(0, len(policy.views)))
            rest = Policy(policy.modes, views)
            self.assertEqual(all_elements(rest), tuple(lot for lot in told if all(view in views for view, _ in lot)))

    def test_by_hand(self):
        policy = Policy(2, [(0, (0, 1)), (0, (1, 1)), (1, (0, 0)), (1, (1, 1))])
        self.assertEqual(all_elements(policy=policy), (
            (((0, (0, 1)), 2), ((1, (0, 0)), 1)), (((0, (1, 1)), 1), ((1, (0, 0)), 1)), (((1, (1, 1)), 1),)))
        self.assertIs(is_element(policy=policy, value=(((1, (1, 1)), 1),)), True)
        self.assertIs(is_element(policy, (((1, (1, 1)), 2),)), False)
        self.assertIs(is_element(policy, (((0, (0, 1)), 2), ((0, (1, 1)), 1), ((1, (0, 0)), 2))), False)
        self.assertEqual(all_elements(Policy(4, [])), ())
        self.assertEqual(all_elements(Policy(3, [(0, ()), (1, ()), (2, ())])),
                         ((((0, ()), 1),), (((1, ()), 1),), (((2, ()), 1),)))
        ring = Policy(4, [(0, (1, 3)), (1, (0, 2)), (2, (1, 3)), (3, (0, 2))])
        self.assertEqual(all_elements(ring), (tuple((view, 1) for view in ring.views),))


class Lots(Case):
    def test_random_policies(self):
        rng = dice(401)
        for policy in chapter_policies(401, 160):
            known = sorted(plain_elements(policy))
            shown = set()
            for size in range(len(policy.views) + 1):
                for lot in combinations(policy.views, size):
                    within = [other for other in known if all(view in lot for view, _ in other)]
                    if lot and {view for other in within for view, _ in other} == set(lot):
                        shown.add(lot)
            self.assertEqual(shown_lots(policy), tuple(sorted(shown)))
            for _ in range(6):
                lot = rng.sample(policy.views, rng.randint(0, len(policy.views)))
                for value in (lot, tuple(lot), sorted(lot)):
                    within = tuple(other for other in known if all(view in lot for view, _ in other))
                    self.assertEqual(elements_within(policy, value), within)
                    part = tuple(sorted({view for other in within for view, _ in other}))
                    self.assertEqual(shown_part(policy, value), part)
                    self.assertIs(is_shown(policy, value), tuple(sorted(lot)) in shown)
            least = [lot for lot in shown if not any(set(other) < set(lot) for other in shown)]
            self.assertEqual(sorted(least), sorted(tuple(view for view, _ in lot) for lot in known))

    def test_by_hand(self):
        policy = Policy(2, [(0, (1,)), (1, (0, 0)), (1, (1, 1))])
        one, middle, ring = policy.views
        self.assertEqual(shown_lots(policy=policy), ((one, middle), (one, middle, ring), (ring,)))
        self.assertEqual(shown_part(policy=policy, lot=[ring, one]), (ring,))
        self.assertEqual(shown_part(policy, []), ())
        self.assertIs(is_shown(policy, ()), False)
        self.assertIs(is_shown(policy=policy, lot=[middle, one]), True)
        self.assertEqual(elements_within(policy=policy, lot=[one]), ())
        self.assertEqual((shown_lots(Policy(1, [])), shown_part(Policy(1, []), [])), ((), ()))

    def test_errors(self):
        policy = Policy(2, [(0, (1,)), (1, (0,))])
        for work in (elements_within, shown_part, is_shown):
            refuses_lots(self, policy, lambda value: work(policy, value))

    def test_nothing_is_changed(self):
        policy = Policy(2, [(0, (1,)), (1, (0,))])
        lot = [(1, (0,)), (0, (1,))]
        for work in (elements_within, shown_part, is_shown):
            work(policy, lot)
        self.assertEqual(lot, [(1, (0,)), (0, (1,))])

    def test_sums_of_elements_tell_those_of_networks(self):
        """A sum is at least 0 on all joined collections exactly if it is for each element."""
        rng = dice(402)
        for policy in chapter_policies(402, 30):
            scores = [rng.randint(-3, 3) for _ in policy.views]
            for one in all_elements(policy):
                for other in all_elements(policy):
                    lot = joined(copies(one, 3), other)
                    self.assertEqual(plain_total(policy, scores, lot),
                                     3 * plain_total(policy, scores, one) + plain_total(policy, scores, other))
                    self.assertEqual(site_count(lot), 3 * site_count(one) + site_count(other))


if __name__ == "__main__":
    unittest.main()

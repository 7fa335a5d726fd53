"""[37], [38]: numbers of sites, small networks by sites, tight steps."""

import unittest
from math import gcd

from judges import judge_size, plain_live
from plain import ODD, Case, all_policies, dice, is_told_collection, plain_elements, plain_mean, plain_total, site_count, variations
from smallnets import small_collections
from test_clocks import WRONG_NUMBERS, small_policies

from handalong.collected import copies
from handalong.errors import InvalidQuestion
from handalong.policies import Policy
from handalong.sizes import best_sum, is_size_evidence, size_evidence, sizes_to, sums_from, tight_step
from handalong.steps import size_step
from handalong.views import all_views


class Evidence(Case):
    def test_random_policies(self):
        steps = set()
        for policy, _ in all_policies(371, 80):
            live = plain_live(policy)
            if not live:
                self.without_network(lambda: size_evidence(policy))
                for value in ODD + [(((0, 1),) * 3, ())]:
                    self.assertIs(is_size_evidence(policy, value), False)
                continue
            step = size_step(policy)
            steps.add(step)
            answer = size_evidence(policy)
            self.assertTrue(judge_size(policy, live, step, answer), answer)
            self.assertIs(is_size_evidence(policy, answer), True)
            self.all_tuples(answer)
            self.assertTrue(all(is_told_collection(lot, policy) for lot in answer[1]))
            clock, lots = answer
            more = tuple(copies(lot, 30) for lot in plain_elements(policy))
            for value in ((clock, lots[::-1]), (clock, lots + lots), (clock, more), (clock, lots + more), (clock, lots[:1]),
                          (clock, ())):
                self.assertIs(is_size_evidence(policy, value), judge_size(policy, live, step, value))
        self.assertGreater(len(steps), 1)

    def test_any_value_as_evidence(self):
        for policy, _ in small_policies(372, 60):
            live = plain_live(policy)
            if live:
                step, answer = size_step(policy), size_evidence(policy)
                for value in variations(answer):
                    self.assertIs(is_size_evidence(policy, value), judge_size(policy, live, step, value), value)

    def test_many_views(self):
        for modes, most in ((2, 4), (3, 3), (3, 4)):
            policy = Policy(modes, [view for degree in range(most + 1) for view in all_views(modes, degree)])
            self.assertIs(is_size_evidence(policy, size_evidence(policy)), True)

    def test_by_hand(self):
        cubic = Policy(1, [(0, (0, 0, 0))])
        clock, lots = size_evidence(cubic)
        self.assertTrue(all(lot[0][1] % 2 == 0 and lot[0][1] >= 4 for lot in lots))
        four, six = (((0, (0, 0, 0)), 4),), (((0, (0, 0, 0)), 6),)
        self.assertIs(is_size_evidence(cubic, (((1, 1),), (six, four))), True)
        self.assertIs(is_size_evidence(cubic, (((1, 1),), (six, four, six))), True)
        self.assertIs(is_size_evidence(policy=cubic, value=(((1, 1),), (four,))), False)
        self.assertIs(is_size_evidence(cubic, (((0, 1),), (four, six))), False)
        self.assertIs(is_size_evidence(cubic, (((1, 1),), (copies(four, 1), (((0, (0, 0, 0)), 2),)))), False)


def plain_sums_from(sizes):
    step = gcd(*sizes)
    limit = 2 * max(sizes) * min(sizes) + 1
    reached = [True] + [False] * limit
    for at in range(1, limit + 1):
        reached[at] = any(at >= size and reached[at - size] for size in sizes)
    return max([at for at in range(0, limit, step) if not reached[at]], default=-step) + step


class Sums(Case):
    def test_by_hand(self):
        self.assertEqual((sums_from((4, 6)), sums_from([5, 3]), sums_from((6, 3))), (4, 8, 0))
        self.assertEqual((sums_from([1]), sums_from(sizes=(200,)), sums_from([200, 199])), (0, 0, 198 * 199))
        self.assertEqual(sums_from([199, 200] * 4), 198 * 199)
        self.assertEqual(sums_from([6, 10, 15]), 30)

    def test_random_sizes(self):
        rng = dice(373)
        for at in range(150):
            top = (8, 30, 60)[at % 3]
            factor = rng.choice((1, 1, 2, 3))
            sizes = [factor * rng.randint(1, top) for _ in range(rng.randint(1, 8))]
            self.assertEqual(sums_from(sizes), plain_sums_from(sizes))
            self.assertEqual(sums_from(tuple(sizes)), plain_sums_from(sizes))

    def test_errors(self):
        for value in ODD + [(), [], [1] * 9, 3, [0], [201], [3, -1], [3, True], [3, 2.0], [3, None], [[3]], (3, "4")]:
            self.refused(InvalidQuestion, 0, lambda: sums_from(value))

    def test_nothing_is_changed(self):
        sizes = [9, 4, 6]
        sums_from(sizes)
        self.assertEqual(sizes, [9, 4, 6])


class Small(Case):
    def check(self, policy, scores, most):
        found = small_collections(policy, most)
        self.assertEqual(sizes_to(policy, most), tuple(many for many in found if found[many]))
        for many, lots in found.items():
            told = best_sum(policy, scores, many)
            if not lots:
                self.assertIsNone(told)
                continue
            self.all_tuples(told)
            self.assertEqual(told, min((plain_total(policy, scores, lot), lot) for lot in lots))
        return found

    def test_random_policies(self):
        some = 0
        for policy, scores in small_policies(381, 90):
            found = self.check(policy, scores, 7 if len(policy.views) < 4 else 5)
            some += any(found.values())
        self.assertGreater(some, 20)

    def test_equal_scores(self):
        for policy, scores in small_policies(382, 60):
            self.check(policy, [1] * len(scores), 5)

    def test_six_views(self):
        rng = dice(383)
        for modes in (1, 2, 3, 4):
            pool = [view for degree in range(1, 5) for view in all_views(modes, degree)]
            for _ in range(4):
                views = rng.sample(pool, min(6, len(pool)))
                policy = Policy(modes, views)
                scores = [rng.randint(-3, 3) for _ in policy.views]
                found = small_collections(policy, 6, 1)
                sizes = sizes_to(policy, 12)
                self.assertEqual([many for many in sizes if many <= 6], [many for many in found if found[many]])
                for many in range(7, 13):
                    told = best_sum(policy, scores, many)
                    self.assertEqual(told is None, many not in sizes)
                    if told is not None:
                        self.assertEqual(site_count(told[1]), many)
                        self.assertEqual(plain_total(policy, scores, told[1]), told[0])
                        c = min(plain_mean(policy, scores, lot) for lot in plain_elements(policy))
                        self.assertGreaterEqual(told[0], c * many)

    def test_by_hand(self):
        cubic = Policy(1, [(0, (0, 0, 0))])
        self.assertEqual(sizes_to(cubic, 12), (4, 6, 8, 10, 12))
        self.assertEqual(sizes_to(policy=cubic, limit=3), ())
        self.assertEqual(sizes_to(cubic, 1000000), tuple(range(4, 1000001, 2)))
        self.assertIsNone(best_sum(cubic, [5], 2))
        self.assertIsNone(best_sum(cubic, [5], 1))
        self.assertEqual(best_sum(policy=cubic, scores=[5], number=4), (20, (((0, (0, 0, 0)), 4),)))
        self.assertEqual(best_sum(cubic, [5], 1000000), (5000000, (((0, (0, 0, 0)), 1000000),)))
        none = Policy(2, [(0, (1,))])
        self.assertEqual((sizes_to(none, 1000000), best_sum(none, [1], 1000000)), ((), None))
        path = Policy(2, [(0, (1,)), (1, (0, 0)), (0, ())])
        self.assertEqual(sizes_to(path, 1), (1,))
        # The first one of two with the same sum: (0, ()) stands ahead of (0, (1,)).
        self.assertEqual(best_sum(path, [1, 1, 1], 3), (3, (((0, ()), 3),)))
        self.assertEqual(best_sum(path, [1, 1, 0], 4), (3, (((0, ()), 1), ((0, (1,)), 2), ((1, (0, 0)), 1))))

    def test_sizes_from_evidence(self):
        """From what `sums_from` tells on just the multiples of the step are numbers of sites."""
        some = 0
        for policy, _ in small_policies(384, 60):
            if plain_live(policy):
                sizes = [site_count(lot) for lot in size_evidence(policy)[1]]
                if max(sizes) <= 30 and len(sizes) <= 8:
                    start, step = sums_from(sizes), size_step(policy)
                    told = sizes_to(policy, start + 2 * step)
                    self.assertEqual([many for many in told if many >= start], list(range(max(start, step), start + 2 * step + 1, step)))
                    some += 1
        self.assertGreater(some, 10)


class Tight(Case):
    def test_random_policies(self):
        seen = set()
        for policy, scores in all_policies(385, 80):
            lots = plain_elements(policy)
            if not lots:
                self.without_network(lambda: tight_step(policy, scores))
                continue
            least = min(plain_mean(policy, scores, lot) for lot in lots)
            tight = {view for lot in lots if plain_mean(policy, scores, lot) == least for view, _ in lot}
            self.assertEqual(tight_step(policy, scores), size_step(Policy(policy.modes, sorted(tight))))
            seen.add(tight_step(policy, scores))
        self.assertGreater(len(seen), 2)

    def test_least_sums_are_c_n_at_just_these(self):
        for policy, scores in small_policies(386, 50):
            lots = plain_elements(policy)
            if lots:
                least = min(plain_mean(policy, scores, lot) for lot in lots)
                step = tight_step(policy, scores)
                for many in range(1, 7):
                    told = best_sum(policy, scores, many)
                    if told is not None and told[0] == least * many:
                        self.assertEqual(many % step, 0)

    def test_by_hand(self):
        policy = Policy(2, [(0, (1,)), (1, (0, 0)), (0, (0, 0))])
        self.assertEqual(tight_step(policy, [1, 0, 0]), 3)
        self.assertEqual(tight_step(policy=policy, scores=[5, 0, 0]), 3)
        self.assertEqual(tight_step(policy, [0, 5, 5]), 1)


class Errors(Case):
    def test_errors_in_their_order(self):
        for policy in (Policy(2, [(0, (1,))]), Policy(2, [(0, (1,)), (1, (0,))]), Policy(1, [])):
            scores = [1] * len(policy.views)
            self.refuses_scores(policy, lambda value: best_sum(policy, value, None))
            self.refuses_scores(policy, lambda value: tight_step(policy, value))
            for number in WRONG_NUMBERS:
                self.refused(InvalidQuestion, 1, lambda: sizes_to(policy, number))
                self.refused(InvalidQuestion, 2, lambda: best_sum(policy, scores, number))
            self.assertEqual((sizes_to(policy, 1), best_sum(policy, scores, 1)), ((), None))
        for policy in (Policy(2, [(0, (1,))]), Policy(1, [])):
            self.without_network(lambda: tight_step(policy, [1] * len(policy.views)))
            self.without_network(lambda: size_evidence(policy))
        for value in ODD + [(), [], 3, (None, None), ((), ()), (((0, 1),), 5)]:
            self.assertIs(is_size_evidence(Policy(1, [(0, ())]), value), False)


if __name__ == "__main__":
    unittest.main()

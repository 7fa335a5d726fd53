"""[35], [36]: steps of sums, sites and links, what sites tell of sums."""

import unittest
from math import gcd

from judges import judge_clock, judge_clock_evidence, links_within, plain_live
from plain import Case, all_policies, dice, plain_elements, plain_mean, plain_total, site_count
from smallnets import small_collections
from test_clocks import small_policies

from handalong.clocks import clock_evidence
from handalong.collected import copies, joined
from handalong.policies import Policy
from handalong.sizes import size_evidence
from handalong.steps import link_steps, size_step, sum_rule, sum_step
from handalong.views import all_views


def proven_step(policy, scores, live):
    """The step of the sums, as evidence proves it: a lesser number with each collection, until a clock fits."""
    step = max(abs(plain_total(policy, scores, copies(lot, 20))) for lot in plain_elements(policy))
    while step not in (0, 1) and step <= 1000000:
        answer = clock_evidence(policy, scores, step)
        assert judge_clock_evidence(policy, scores, live, step, answer)
        if answer[0] == "clock":
            return step
        step = gcd(step, plain_total(policy, scores, answer[1]))
    return step


class Steps(Case):
    def test_random_policies(self):
        rng = dice(351)
        seen = set()
        for policy, scores in all_policies(351, 60):
            live = plain_live(policy)
            rows = [scores, [x % 7 for x in scores], [2 * x + len(v[1]) for x, v in zip(scores, policy.views)], [0] * len(scores)]
            for row in rows:
                step = sum_step(policy, row)
                self.assertIs(type(step), int)
                if not live:
                    self.assertEqual(step, 0)
                    continue
                nought = all(plain_total(policy, row, lot) == 0 for lot in plain_elements(policy))
                self.assertEqual(step == 0, nought)
                if nought:
                    self.assertEqual(clock_evidence(policy, row, rng.randint(1, 99))[0], "clock")
                    continue
                proven = proven_step(policy, row, live)
                if proven:
                    self.assertEqual(step, proven)
                    seen.add(step)
            if live:
                self.assertEqual(size_step(policy), proven_step(policy, [1] * len(scores), live))
        self.assertGreater(len(seen), 6)

    def test_small_networks(self):
        exact = 0
        for policy, scores in small_policies(352, 120):
            lots = [lot for row in small_collections(policy, 6).values() for lot in row]
            live = plain_live(policy)
            if not live:
                for work in (size_step, link_steps):
                    self.without_network(lambda: work(policy))
                continue
            step, size, links = sum_step(policy, scores), size_step(policy), link_steps(policy)
            self.all_tuples(links)
            pairs = [(a, b) for a in range(policy.modes) for b in range(a, policy.modes)]
            self.assertEqual([(a, b) for a, b, _ in links], pairs)
            for lot in lots:
                self.assertEqual(site_count(lot) % size, 0)
                total = plain_total(policy, scores, lot)
                self.assertTrue(total % step == 0 if step else total == 0)
                for a, b, k in links:
                    many = links_within(lot, a, b)
                    self.assertTrue(many % k == 0 if k else many == 0)
            # Lots with all live views together are as many as are needed for the common divisors, where there are some.
            if {view for lot in lots for view, _ in lot} == set(live):
                exact += gcd(*[site_count(lot) for lot in lots]) == size
                exact += gcd(*[plain_total(policy, scores, lot) for lot in lots]) == step
                for a, b, k in links:
                    exact += gcd(*[links_within(lot, a, b) for lot in lots]) == k
        self.assertGreater(exact, 60)

    def test_link_steps_are_exact(self):
        """The number of links, as scores: half of those within a mode are counted twice."""
        for policy, _ in all_policies(353, 60):
            live = plain_live(policy)
            if not live:
                continue
            for a, b, k in link_steps(policy):
                scores = [view[1].count(b) * (view[0] == a) for view in policy.views]
                step = sum_step(policy, scores)
                if step:
                    self.assertEqual(step, proven_step(policy, scores, live))
                self.assertEqual(step, 2 * k if a == b else k)

    def test_by_hand(self):
        cubic = Policy(1, [(0, (0, 0, 0))])
        self.assertEqual((sum_step(cubic, [5]), size_step(cubic), link_steps(cubic)), (10, 2, ((0, 0, 3),)))
        path = Policy(2, [(0, (1,)), (1, (0, 0)), (0, (0,))])
        self.assertEqual(size_step(policy=path), 1)
        self.assertEqual(link_steps(policy=path), ((0, 0, 1), (0, 1, 2), (1, 1, 0)))
        self.assertEqual(sum_step(policy=path, scores=[3, 0, 6]), 6)
        self.assertEqual((sum_step(path, [3, 0, 9]), sum_step(path, [0, 1, -2])), (3, 0))
        self.assertEqual(sum_step(Policy(2, [(0, (1,))]), [4]), 0)
        self.assertEqual(sum_step(Policy(3, []), []), 0)
        odd = Policy(1, [(0, (0,)), (0, (0, 0, 0)), (0, ())])
        self.assertEqual((sum_step(odd, [3, 0, 0]), sum_step(odd, [0, 1, 1]), sum_step(odd, [4, 1, 3])), (3, 2, 2))

    def test_many_views(self):
        policy = Policy(3, [view for degree in range(5) for view in all_views(3, degree)])
        self.assertEqual(size_step(policy), 1)
        self.assertEqual([k for _, _, k in link_steps(policy)], [1] * 6)
        self.assertEqual(sum_step(policy, [len(view[1]) for view in policy.views]), 2)
        self.assertEqual(sum_rule(policy, [len(view[1]) + 3 for view in policy.views]), (1, 1, 2))


class Rules(Case):
    def test_random_policies(self):
        rng = dice(361)
        seen = set()
        for policy, scores in all_policies(361, 80):
            live = plain_live(policy)
            if not live:
                self.without_network(lambda: sum_rule(policy, scores))
                continue
            for row in (scores, [3 * x + 1 for x in scores], [rng.randint(-1, 1) * 6 + 2 for _ in scores]):
                e, r, k = told = sum_rule(policy, row)
                self.all_tuples(told)
                self.assertEqual(e, size_step(policy))
                means = {plain_mean(policy, row, lot) for lot in plain_elements(policy)}
                self.assertEqual(k == 0, len(means) == 1)
                if k == 0:
                    self.assertEqual({e * mean for mean in means}, {r})
                    continue
                seen.add(k)
                self.assertTrue(0 <= r < k)
                # The sums of e times the score less r are just the multiples of e k.
                self.assertEqual(sum_step(policy, [e * x - r for x in row]) % (e * k), 0)
                if e * k <= 1000000:
                    answer = clock_evidence(policy, [e * x - r for x in row], e * k)
                    self.assertEqual(answer[0], "clock")
                    self.assertTrue(judge_clock(policy, [e * x - r for x in row], live, e * k, answer[1]))
                self.check_greatest(policy, row, e, k)
        self.assertGreater(len(seen), 5)

    def check_greatest(self, policy, row, e, k):
        """No greater number does: collections of networks that differ by e sites, and by none, tell k."""
        lots = list(size_evidence(policy)[1]) + [copies(lot, 20) for lot in plain_elements(policy)]
        for m in (2, 3, 5, 7):
            if m * k * e > 1000000:
                continue
            # If m k did, some r in 0 .. m k - 1 would fit all; each one is refuted by a collection.
            for r in range(m * k if m * k <= 30 else 0):
                scores = [e * x - r for x in row]
                if all(plain_total(policy, scores, lot) % (e * m * k) == 0 for lot in lots):
                    self.assertEqual(clock_evidence(policy, scores, e * m * k)[0], "collection")

    def test_small_networks(self):
        for policy, scores in small_policies(362, 80):
            if not plain_live(policy):
                continue
            lots = [lot for row in small_collections(policy, 6).values() for lot in row]
            e, r, k = sum_rule(policy, scores)
            for lot in lots:
                self.assertEqual(site_count(lot) % e, 0)
                rest = plain_total(policy, scores, lot) - r * (site_count(lot) // e)
                self.assertTrue(rest % k == 0 if k else rest == 0)

    def test_by_hand(self):
        cubic = Policy(1, [(0, (0, 0, 0))])
        self.assertEqual(sum_rule(cubic, [-3]), (2, -6, 0))
        two = Policy(1, [(0, ()), (0, (0,))])
        # j sites, of which an even number have a link.
        self.assertEqual(sum_rule(policy=two, scores=[5, 8]), (1, 5, 6))
        self.assertEqual(sum_rule(two, [-1, 2]), (1, 5, 6))
        self.assertEqual(sum_rule(two, [4, 4]), (1, 4, 0))
        self.assertEqual(sum_rule(two, [4, 5]), (1, 0, 2))


class Errors(Case):
    def test_errors_in_their_order(self):
        for policy in (Policy(2, [(0, (1,))]), Policy(2, [(0, (1,)), (1, (0,))]), Policy(1, [])):
            for work in (sum_step, sum_rule):
                self.refuses_scores(policy, lambda value: work(policy, value))
        for policy in (Policy(2, [(0, (1,))]), Policy(4, [])):
            self.without_network(lambda: sum_rule(policy, [1] * len(policy.views)))
            self.without_network(lambda: size_step(policy))
            self.without_network(lambda: link_steps(policy))

    def test_nothing_is_changed(self):
        policy = Policy(2, [(0, (1,)), (1, (0,)), (1, (1,))])
        scores = [1, 2, 3]
        sum_step(policy, scores)
        sum_rule(policy, scores)
        self.assertEqual(scores, [1, 2, 3])

    def test_sums_of_many_networks(self):
        """The sums of joined collections are sums of multiples of the step."""
        for policy, scores in all_policies(354, 40):
            lots = plain_elements(policy)
            step = sum_step(policy, scores)
            for lot in lots:
                for other in lots:
                    total = plain_total(policy, scores, joined(copies(lot, 20), copies(other, 40)))
                    self.assertTrue(total % step == 0 if step else total == 0)


if __name__ == "__main__":
    unittest.main()

"""[52] to [55]: sections and their cuts, rates and their steps, sections that meet the rate."""

import unittest
from fractions import Fraction
from itertools import combinations

from judges import plain_live
from judges_more import judge_rate, plain_falling, plain_gap, rate_points
from plain import (ODD, Agreeable, Case, all_policies, dice, fraction, is_told_collection, is_told_transfer, pair, plain_elements,
                   plain_mean, plain_total, random_network_parts, random_policy_views, site_count, variations, walked_views)

from handalong.collected import collected, copies, joined
from handalong.errors import InvalidQuestion
from handalong.networks import Network
from handalong.policies import Policy
from handalong.sections import cut_of, frontier, gap, is_rate_evidence, rate, rate_section, rate_steps
from handalong.views import all_views

PRICES = ((0, 1), (1, 3), (1, 1), (5, 2), (100, 1), (10 ** 9, 1))


def walked_cut(modes, links, section):
    """The links out of a section, link by link."""
    found = {}
    for i, j in links:
        for one, other in ((i, j), (j, i)):
            if one in section and other not in section:
                kind = (modes[one], modes[other])
                found[kind] = found.get(kind, 0) + 1
    return tuple(sorted(found.items()))


class Cuts(Case):
    def test_random_networks(self):
        rng = dice(521)
        for at in range(120):
            modes, links = random_network_parts(rng, at % 4 + 1, rng.randint(1, 12))
            network = Network(modes, links)
            views = walked_views(modes, links)
            for _ in range(6):
                section = tuple(sorted(rng.sample(range(len(modes)), rng.randint(1, len(modes)))))
                cut = walked_cut(modes, links, section)
                self.assertEqual(cut_of(network, section), cut)
                self.all_tuples(cut_of(network, section))
                told = frontier(network, section)
                self.assertEqual(told, sum(many for (a, b), many in cut if a != b))
                lot = collected([views[site] for site in section])
                self.assertEqual(gap(lot), plain_gap(lot))
                self.assertGreaterEqual(told, gap(lot))
            whole = tuple(range(len(modes)))
            self.assertEqual((cut_of(network, whole), frontier(network, whole), gap(collected(views))), ((), 0, 0))

    def test_by_hand(self):
        path = Network([0, 1, 0, 2], [(0, 1), (1, 2), (2, 3)])
        self.assertEqual(cut_of(network=path, sites=(1, 2)), (((0, 2), 1), ((1, 0), 1)))
        self.assertEqual(frontier(network=path, sites=(1, 2)), 2)
        self.assertEqual(cut_of(path, (0, 2)), (((0, 1), 2), ((0, 2), 1)))
        same = Network([0, 0, 0], [(0, 1), (1, 2)])
        self.assertEqual((cut_of(same, (1,)), frontier(same, (1,))), ((((0, 0), 2),), 0))
        self.assertEqual(gap(collection=(((0, (1, 1)), 3), ((1, (0, 2)), 2), ((3, (1,)), 1))), 4 + 2 + 1)

    def test_errors(self):
        network = Network([0, 1, 0], [(0, 1), (1, 2)])
        for work in (cut_of, frontier):
            for value in ODD + [(), [], [0], 0, (3,), (-1,), (0, 0), (1, 0), (0, True), (False,), (0, 1.0), (0, None), ((0,),),
                                (0, 1, 3), (Agreeable(),)]:
                self.refused(InvalidQuestion, 1, lambda: work(network, value))


class Rates(Case):
    def cases(self, seed, many):
        for policy, scores in all_policies(seed, many):
            if policy.modes < 4 and len(policy.views) < 7:
                yield policy, scores, plain_live(policy)

    def test_random_policies(self):
        words = set()
        for policy, scores, live in self.cases(531, 100):
            points = rate_points(policy, scores, live)
            for price in PRICES:
                answer = rate(policy, scores, price)
                words.add(answer[0])
                self.all_tuples(answer)
                self.assertTrue(judge_rate(policy, scores, live, price, answer), answer)
                self.assertIs(is_rate_evidence(policy, scores, price, answer), True)
                if live:
                    self.assertEqual(fraction(answer[1]), min(s + fraction(price) * g for g, s in points))
                    self.assertTrue(is_told_transfer(policy.modes, answer[2]))
                    self.assertTrue(is_told_collection(answer[3], policy))
                    for other in (copies(answer[3], 2), joined(answer[3], ((policy.views[0], 1),)), *plain_elements(policy)[:2]):
                        value = answer[:3] + (other,)
                        self.assertIs(is_rate_evidence(policy, scores, price, value),
                                      judge_rate(policy, scores, live, price, value))
                for other in PRICES:
                    self.assertIs(is_rate_evidence(policy, scores, other, answer),
                                  judge_rate(policy, scores, live, other, answer))
        self.assertEqual(words, {"none", "rate"})

    def test_any_value(self):
        for at, (policy, scores, live) in enumerate(self.cases(532, 60)):
            price = PRICES[at % 4]
            for value in variations(rate(policy, scores, price)):
                self.assertIs(is_rate_evidence(policy, scores, price, value),
                              judge_rate(policy, scores, live, price, value), value)
            for value in ODD + [(), [], 3, ("none",), ("none", None), ("rate", None, None, None)]:
                self.assertIs(is_rate_evidence(policy, scores, price, value), False)

    def test_sections_of_networks(self):
        """No section has less than the rate tells."""
        rng = dice(533)
        for at in range(60):
            modes, links = random_network_parts(rng, at % 3 + 1, rng.randint(2, 8))
            views = walked_views(modes, links)
            policy = Policy(3, sorted(set(views)))
            scores = [rng.randint(-5, 5) for _ in policy.views]
            worth = dict(zip(policy.views, scores))
            for price in ((0, 1), (1, 2), (3, 1)):
                c = fraction(rate(policy, scores, price)[1])
                for size in range(1, len(modes) + 1):
                    for section in list(combinations(range(len(modes)), size))[::3]:
                        cut = sum(many for (a, b), many in walked_cut(modes, links, section) if a != b)
                        total = sum(worth[views[site]] for site in section)
                        self.assertGreaterEqual(total, c * size - fraction(price) * cut)

    def test_steps(self):
        sizes = set()
        for policy, scores, live in self.cases(541, 600):
            if not live:
                self.without_network(lambda: rate_steps(policy, scores))
                continue
            told = rate_steps(policy, scores)
            self.all_tuples(told)
            chain = plain_falling(rate_points(policy, scores, live))[::-1]
            steps = [(Fraction(0), chain[0][1])]
            for (g, s), (gg, ss) in zip(chain, chain[1:]):
                price = (ss - s) / (g - gg)
                steps.append((price, s + price * g))
            self.assertEqual(told, tuple((pair(r), pair(c)) for r, c in steps))
            sizes.add(min(len(told), 4))
            least = min(plain_mean(policy, scores, lot) for lot in plain_elements(policy))
            self.assertEqual(fraction(told[-1][1]), least)
            self.assertEqual(told[0], ((0, 1), (min(x for v, x in zip(policy.views, scores) if v in live), 1)))
            for price, c in told:
                self.assertEqual(rate(policy, scores, price)[1], c)
            for (r, c), (rr, cc) in zip(told, told[1:]):
                middle = (fraction(r) + fraction(rr)) / 2
                self.assertEqual(fraction(rate(policy, scores, pair(middle))[1]), (fraction(c) + fraction(cc)) / 2)
        self.assertLessEqual({1, 2, 3}, sizes)

    def test_by_hand(self):
        path = Policy(2, [(0, (1,)), (1, (0, 0))])
        self.assertEqual(rate(path, [0, 6], (0, 1))[:3], ("rate", (0, 1), ((0, 1),)))
        self.assertEqual(rate(path, [0, 6], (1, 1))[:2], ("rate", (1, 1)))
        self.assertEqual(rate(policy=path, scores=[0, 6], price=(2, 1))[:3], ("rate", (2, 1), ((-2, 1),)))
        self.assertEqual(rate(path, [0, 6], (9, 1))[:2], ("rate", (2, 1)))
        self.assertEqual(rate_steps(policy=path, scores=[0, 6]), (((0, 1), (0, 1)), ((2, 1), (2, 1))))
        self.assertEqual(rate_steps(path, [3, 3]), (((0, 1), (3, 1)),))
        self.assertIs(is_rate_evidence(path, [0, 6], (1, 1), ("rate", (1, 1), ((-1, 1),), (((0, (1,)), 5),))), True)
        self.assertIs(is_rate_evidence(path, [0, 6], (1, 2), ("rate", (1, 1), ((-1, 1),), (((0, (1,)), 5),))), False)
        self.assertIs(is_rate_evidence(policy=path, scores=[0, 6], price=(1, 1),
                                       value=("rate", (1, 1), ((-1, 1),), (((1, (0, 0)), 1),))), False)
        none = Policy(2, [(0, (1,))])
        self.assertEqual(rate(none, [4], (1, 1))[0], "none")
        self.assertIs(is_rate_evidence(none, [4], (1, 1), ("none", ((1, 1),))), True)
        self.assertIs(is_rate_evidence(none, [4], (1, 1), ("rate", (4, 1), ((0, 1),), (((0, (1,)), 1),))), False)
        # A dead view does not count.
        some = Policy(2, [(0, (1,)), (1, ())])
        self.assertEqual(rate(some, [-50, 3], (2, 1))[1], (3, 1))
        self.assertEqual(rate(some, [1, 3], (2, 1))[1], (3, 1))
        self.assertIs(is_rate_evidence(some, [1, 3], (2, 1), ("rate", (3, 1), ((0, 1),), (((1, ()), 1),))), True)
        self.assertIs(is_rate_evidence(some, [1, 3], (2, 1), ("rate", (3, 1), ((0, 1),), (((0, (1,)), 1),))), False)

    def test_many_views(self):
        rng = dice(534)
        policy = Policy(3, [view for degree in range(5) for view in all_views(3, degree)])
        scores = [rng.randint(-1000, 1000) for _ in policy.views]
        for price, c in rate_steps(policy, scores):
            answer = rate(policy, scores, price)
            self.assertEqual(answer[1], c)
            self.assertTrue(judge_rate(policy, scores, policy.views, price, answer))


class Meeting(Case):
    def check(self, policy, scores, price, c):
        told = rate_section(policy, scores, price)
        self.assertIs(type(told), tuple)
        network, section = told
        self.assertIs(type(network), Network)
        views = walked_views(network.modes, network.links)
        self.assertTrue(all(view in policy.views for view in views))
        self.assertEqual(list(section), sorted(set(section)))
        self.assertIs(type(section), tuple)
        self.assertTrue(section and set(section) <= set(range(len(views))))
        total = sum(scores[policy.views.index(views[site])] for site in section)
        cut = sum(many for (a, b), many in walked_cut(network.modes, network.links, section) if a != b)
        self.assertEqual(total, fraction(c) * len(section) - fraction(price) * cut)
        return len(section) == len(views)

    def test_random_policies(self):
        rng = dice(551)
        whole = set()
        for at in range(150):
            modes = at % 2 + 1
            policy = Policy(modes, random_policy_views(rng, modes, rng.randint(1, (3, 9)[modes - 1]), most=3))
            scores = [rng.randint(-9, 9) for _ in policy.views]
            for price in PRICES[:5]:
                answer = rate(policy, scores, price)
                if answer[0] == "none":
                    self.without_network(lambda: rate_section(policy, scores, price))
                else:
                    whole.add(self.check(policy, scores, price, answer[1]))
        self.assertEqual(whole, {True, False})

    def test_all_views(self):
        rng = dice(552)
        policy = Policy(2, [view for degree in range(4) for view in all_views(2, degree)])
        for scale in (1, 1000):
            scores = [rng.randint(-scale, scale) for _ in policy.views]
            for price, c in rate_steps(policy, scores):
                self.check(policy, scores, price, c)

    def test_by_hand(self):
        path = Policy(2, [(0, (1,)), (1, (0, 0))])
        network, section = rate_section(policy=path, scores=[0, 6], price=(1, 1))
        self.assertEqual({network.modes[site] for site in section}, {0})
        self.assertEqual(len(rate_section(path, [0, 6], (9, 1))[1]) % 3, 0)


class Errors(Case):
    def test_errors_in_their_order(self):
        for policy in (Policy(2, [(0, (1,))]), Policy(2, [(0, (1,)), (1, (0,))]), Policy(1, [])):
            scores = [1] * len(policy.views)
            for work in (lambda s, r: rate(policy, s, r), lambda s, r: is_rate_evidence(policy, s, r, None),
                         lambda s, r: rate_section(policy, s, r)):
                self.refuses_scores(policy, lambda value: work(value, None))
                for price in ODD + [(), [1, 1], (1, 0), (2, 2), (-1, 1), (0, 2), (1.0, 1), (True, 1), 1, (1, 1, 1), (1, -1)]:
                    self.refused(InvalidQuestion, 2, lambda: work(scores, price))
            self.refuses_scores(policy, lambda value: rate_steps(policy, value))
        for policy in (Policy(2, [(0, (1,))]), Policy(1, [])):
            scores = [1] * len(policy.views)
            self.without_network(lambda: rate_section(policy, scores, (1, 1)))
            self.without_network(lambda: rate_steps(policy, scores))

    def test_nothing_is_changed(self):
        policy = Policy(2, [(0, (1,)), (1, (0,)), (1, (1,))])
        scores = [1, 2, 3]
        is_rate_evidence(policy, scores, (1, 1), rate(policy, scores, (1, 1)))
        rate_steps(policy, scores)
        rate_section(policy, scores, (1, 1))
        self.assertEqual(scores, [1, 2, 3])

    def test_the_points_of_rates(self):
        """The plain points: each collection of live views has its gap and total among what they make."""
        rng = dice(535)
        for policy, scores in all_policies(535, 20):
            live = plain_live(policy)
            if live and policy.modes < 4 and len(policy.views) < 7:
                points = rate_points(policy, scores, live)
                for _ in range(10):
                    lot = collected(rng.choices(live, k=rng.randint(1, 6)))
                    for r in (0, 1, 3):
                        value = Fraction(plain_total(policy, scores, lot) + r * plain_gap(lot), site_count(lot))
                        self.assertGreaterEqual(value, min(s + r * g for g, s in points))


if __name__ == "__main__":
    unittest.main()

"""[10]: collections and half-links."""

import unittest
from fractions import Fraction

from plain import ODD, Case, dice, half, pair, random_network_parts, walked_views

from handalong.collected import (checked_collection, collected, collection_mean, collection_total, copies, half_links,
                                 is_collection, joined, network_collection, sites, unbalanced)
from handalong.errors import InvalidCollection, InvalidScore, NotObeyed
from handalong.networks import Network, side_by_side
from handalong.policies import Policy
from handalong.views import all_views

A, B, C = (0, (0, 1)), (0, (1, 1)), (1, (0, 0))
PATH = (((0, (1,)), 2), ((1, (0, 0)), 1))

WRONG_ENTRIES = ODD + [3, (), (A,), (A, 1, 1), [A, 1], (A, 0), (A, -1), (A, True), (A, 1.0), (A, "1"), (A, None), (1, A),
                       ((0, [0, 1]), 1), ((0, (1, 0)), 1), ((4, ()), 1), ((True, ()), 1), (list(A), 1), (None, 1)]


class Collections(Case):
    def test_is_collection(self):
        for value in [PATH, ((A, 1),), ((A, 7), (B, 1), (C, 100)), (((3, (3, 3, 3, 3)), 10**9),)]:
            self.assertIs(is_collection(value), True)

    def test_is_no_collection(self):
        wrong = ODD + [(), [], [(A, 1)], ((B, 1), (A, 1)), ((A, 1), (A, 2)), ((A, 1), (A, 1)), (A, 1), 3,
                       ((A, 1), (C, 1), (B, 1)), ((A, 1), [B, 1])]
        wrong += [(entry,) for entry in WRONG_ENTRIES] + [((A, 1), entry) for entry in WRONG_ENTRIES]
        for value in wrong:
            self.assertIs(is_collection(value), False, value)

    def test_checked_collection(self):
        self.assertEqual(checked_collection([(C, 1), (A, 3), (B, 2)]), ((A, 3), (B, 2), (C, 1)))
        self.assertEqual(checked_collection(value=((A, 1),)), ((A, 1),))
        told = [(B, 5), (A, 9)]
        found = checked_collection(told)
        told.append((C, 1))
        self.assertEqual(found, ((A, 9), (B, 5)))
        self.assertIs(type(found), tuple)

    def test_checked_collection_refuses(self):
        for value in ODD + [(), [], 3]:
            self.refused(InvalidCollection, 0, lambda: checked_collection(value))
        for entry in WRONG_ENTRIES:
            self.refused(InvalidCollection, 0, lambda: checked_collection([entry, None]))
            self.refused(InvalidCollection, 2, lambda: checked_collection([(C, 1), (B, 2), entry, None]))
        self.refused(InvalidCollection, 2, lambda: checked_collection([(C, 1), (A, 1), (C, 1), None]))
        self.refused(InvalidCollection, 1, lambda: checked_collection(((C, 1), (C, 2))))
        self.refused(InvalidCollection, 1, lambda: checked_collection(((C, 1), None, (C, 2))))

    def test_collected(self):
        self.assertEqual(collected([C, A, C, B, C, A]), ((A, 2), (B, 1), (C, 3)))
        self.assertEqual(collected(views=(B,)), ((B, 1),))
        self.assertIs(is_collection(collected([C, A, C])), True)

    def test_counts(self):
        lot = ((A, 2), (C, 5))
        self.assertEqual(sites(lot), 7)
        self.assertEqual(sites(collection=((A, 1),)), 1)
        self.assertEqual(copies(lot, 1), lot)
        self.assertEqual(copies(collection=lot, many=12), ((A, 24), (C, 60)))
        self.assertEqual(joined(lot, ((B, 1), (C, 2))), ((A, 2), (B, 1), (C, 7)))
        self.assertEqual(joined(one=((C, 1),), other=lot), ((A, 2), (C, 6)))
        self.assertEqual(lot, ((A, 2), (C, 5)))

    def test_half_links(self):
        lot = (((0, (0, 0, 1)), 3), ((0, (2,)), 2), ((1, (0, 0, 3, 3)), 5))
        told = {(0, 0): 6, (0, 1): 3, (0, 2): 2, (1, 0): 10, (1, 3): 10}
        for a in range(4):
            for b in range(4):
                self.assertEqual(half_links(lot, a, b), told.get((a, b), 0))
        self.assertEqual(half_links(collection=lot, a=1, b=0), 10)

    def test_unbalanced(self):
        self.assertIsNone(unbalanced(PATH))
        self.assertIsNone(unbalanced((((0, (0,)), 1),)))
        self.assertIsNone(unbalanced((((2, ()), 1),)))
        self.assertEqual(unbalanced(((A, 1),)), (0, 1))
        self.assertEqual(unbalanced((((1, (0,)), 1), ((0, (2,)), 1))[::-1]), (0, 1))
        self.assertEqual(unbalanced((((0, (2,)), 1), ((2, (3,)), 1))), (0, 2))
        self.assertEqual(unbalanced((((2, (3,)), 1), ((3, (2, 2)), 1))), (2, 3))
        self.assertEqual(unbalanced((((1, (3,)), 1), ((2, (3,)), 1), ((3, (1, 1)), 1))), (1, 3))
        self.assertEqual(unbalanced(collection=(((3, (0,)), 1),)), (0, 3))

    def test_networks_are_balanced(self):
        rng = dice(10)
        for many in [1, 2, 3, 9, 30, 64]:
            modes, links = random_network_parts(rng, 4, many)
            network = Network(modes, links)
            found = network_collection(network)
            views = walked_views(modes, links)
            self.assertEqual(found, tuple((view, views.count(view)) for view in sorted(set(views))))
            self.assertIsNone(unbalanced(found))
            self.assertEqual(sites(found), many)
            for a in range(4):
                within = sum(modes[i] == modes[j] == a for i, j in links)
                self.assertEqual(half_links(found, a, a), 2 * within)
                for b in range(4):
                    self.assertEqual(half_links(found, a, b), half(found, a, b))

    def test_network_collection(self):
        self.assertEqual(network_collection(Network([0, 1, 0], [(0, 1), (1, 2)])), PATH)
        self.assertEqual(network_collection(network=Network([3], [])), (((3, ()), 1),))

    def test_totals(self):
        policy = Policy(2, [A, B, C])
        lot = ((A, 2), (C, 5))
        self.assertEqual(collection_total(policy, [10, 99, -3], lot), 5)
        self.assertEqual(collection_mean(policy, [10, 99, -3], lot), (5, 7))
        self.assertEqual(collection_total(policy=policy, scores=(1, 1, 1), collection=lot), 7)
        self.assertEqual(collection_mean(policy=policy, scores=(1, 1, 1), collection=lot), (1, 1))

    def test_totals_of_networks(self):
        rng = dice(11)
        policy = Policy(3, [view for degree in range(5) for view in all_views(3, degree)])
        for many in (1, 8, 40):
            modes, links = random_network_parts(rng, 3, many)
            scores = [rng.randint(-1000, 1000) for _ in policy.views]
            plain = sum(scores[policy.views.index(view)] for view in walked_views(modes, links))
            lot = network_collection(Network(modes, links))
            self.assertEqual(collection_total(policy, scores, lot), plain)
            self.assertEqual(collection_mean(policy, scores, copies(lot, 9)), pair(Fraction(plain, many)))

    def test_totals_refuse(self):
        policy = Policy(2, [A, C])
        lot = ((A, 1), (B, 1), (C, 1), ((1, (1,)), 1))
        for work in (collection_total, collection_mean):
            self.refused(NotObeyed, 1, lambda: work(policy, [1, 2], lot))
            self.refused(NotObeyed, 0, lambda: work(policy, [1, 2], ((B, 1),)))
            self.refused(InvalidScore, 1, lambda: work(policy, [1, True], lot))
            for value in ODD + [[], [1], (1, 2, 3)]:
                self.refused(InvalidScore, 2, lambda: work(policy, value, lot))

    def test_copies_of_a_network(self):
        network = Network([0, 1, 0], [(0, 1), (1, 2)])
        self.assertEqual(network_collection(side_by_side([network] * 3)), copies(PATH, 3))


if __name__ == "__main__":
    unittest.main()

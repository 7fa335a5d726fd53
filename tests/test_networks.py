"""[8], [9]: networks, and the sites that obey."""

import unittest
from fractions import Fraction

from plain import ODD, Agreeable, Case, dice, pair, random_network_parts, walked_views

from handalong.errors import InvalidNetwork, InvalidQuestion, InvalidScore, NotObeyed
from handalong.networks import Network, breaches, mean, pieces, side_by_side, total
from handalong.policies import Policy
from handalong.views import all_views


def everything(modes):
    return Policy(modes, [view for degree in range(5) for view in all_views(modes, degree)])


class Networks(Case):
    def test_attributes(self):
        network = Network([0, 1, 2, 3], [[3, 1], (2, 0), [0, 1]])
        self.assertEqual(network.modes, (0, 1, 2, 3))
        self.assertEqual(network.links, ((0, 1), (0, 2), (1, 3)))
        self.assertIs(type(network.modes), tuple)
        self.assertTrue(all(type(link) is tuple for link in network.links))
        self.assertEqual(Network(modes=(3,), links=()).links, ())

    def test_later_changes_have_no_effect(self):
        modes, links = [0, 1], [[1, 0]]
        network = Network(modes, links)
        modes[0] = 3
        links[0][0] = 0
        links.append([0, 1])
        self.assertEqual((network.modes, network.links), ((0, 1), ((0, 1),)))
        self.assertEqual(network.view(0), (0, (1,)))

    def test_equal(self):
        self.assertTrue(Network([0, 1, 1], [(0, 1), (2, 1)]) == Network((0, 1, 1), ([1, 2], [1, 0])))
        self.assertTrue(Network([0, 1], []) != Network([1, 0], []))
        self.assertTrue(Network([0, 0], []) != Network([0, 0], [(0, 1)]))
        network = Network([0], [])
        for value in ODD + [((0,), ()), [0], (0,), Policy(1, []), 0]:
            self.assertFalse(network == value)
            if not isinstance(value, Agreeable):
                self.assertFalse(value == network)
            self.assertTrue(network != value)

    def test_wrong_modes_come_first(self):
        for value in ODD + [(), [], 3]:
            self.refused(InvalidNetwork, 0, lambda: Network(value, []))
            self.refused(InvalidNetwork, 0, lambda: Network(value, None))
        for value in ODD + [-1, 4, (), [0]]:
            self.refused(InvalidNetwork, 2, lambda: Network([0, 3, value, None], [None]))
            self.refused(InvalidNetwork, 0, lambda: Network([value], []))

    def test_wrong_links(self):
        for value in ODD + [3]:
            self.refused(InvalidNetwork, 3, lambda: Network([0, 0, 0], value))
        wrong = ODD + [(), (0,), (0, 1, 2), (0, 0), (0, 3), (-1, 0), (0, True), (False, 1), (0, "1"), "01", {0, 1},
                       (0, None), (0, [1]), (0.0, 1), 1]
        for value in wrong:
            self.refused(InvalidNetwork, 4, lambda: Network([0, 0, 0], [(0, 2), value, None]))
            self.refused(InvalidNetwork, 3, lambda: Network([0, 0, 0], [value]))

    def test_twice_is_told_at_the_second(self):
        self.refused(InvalidNetwork, 3, lambda: Network([0, 0], [(0, 1), [1, 0], None]))
        self.refused(InvalidNetwork, 5, lambda: Network([0, 0, 0], [(2, 1), (0, 1), (1, 2), (0, 1)]))
        self.refused(InvalidNetwork, 4, lambda: Network([0, 0, 0], [(2, 1), None, (1, 2)]))

    def test_four_neighbours_and_a_fifth(self):
        star = [(0, other) for other in range(1, 5)]
        network = Network([0] * 6, star)
        self.assertEqual(network.neighbours(0), (1, 2, 3, 4))
        self.refused(InvalidNetwork, 10, lambda: Network([0] * 6, star + [(0, 5)]))
        self.refused(InvalidNetwork, 10, lambda: Network([0] * 6, star + [(5, 0), (0, 0)]))
        self.refused(InvalidNetwork, 11, lambda: Network([0] * 6, star + [(5, 1), (0, 5), (1, 2)]))
        self.refused(InvalidNetwork, 10, lambda: Network([0] * 6, [(other, 5) for other in range(4)] + [(4, 5)]))

    def test_neighbours_and_views(self):
        network = Network([2, 0, 1, 0], [(3, 0), (0, 1), (2, 0)])
        self.assertEqual(network.neighbours(0), (1, 2, 3))
        self.assertEqual(network.neighbours(at=3), (0,))
        self.assertEqual(network.view(0), (2, (0, 0, 1)))
        self.assertEqual(network.view(at=1), (0, (2,)))
        self.assertEqual(network.site_views(), ((2, (0, 0, 1)), (0, (2,)), (1, (2,)), (0, (2,))))
        for value in ODD + [-1, 4, (), (0,), 0.0]:
            self.refused(InvalidQuestion, 0, lambda: network.neighbours(value))
            self.refused(InvalidQuestion, 0, lambda: network.view(value))

    def test_views_link_by_link(self):
        rng = dice(8)
        for many in [1, 2, 5, 17, 64]:
            modes, links = random_network_parts(rng, 4, many)
            turned = [rng.choice([(i, j), [j, i]]) for i, j in links]
            rng.shuffle(turned)
            network = Network(modes, turned)
            self.assertEqual(network.links, tuple(links))
            self.assertEqual(network.site_views(), walked_views(modes, links))
            self.assertEqual(tuple(network.view(at) for at in range(many)), walked_views(modes, links))
            for at in range(many):
                near = [i + j - at for i, j in links if at in (i, j)]
                self.assertEqual(network.neighbours(at), tuple(sorted(near)))

    def test_side_by_side(self):
        one, other = Network([0, 1], [(0, 1)]), Network([2], [])
        both = side_by_side([one, other, one])
        self.assertEqual(both, Network([0, 1, 2, 0, 1], [(0, 1), (3, 4)]))
        self.assertEqual(side_by_side(networks=(one,)), one)
        self.assertEqual(one, Network([0, 1], [(0, 1)]))

    def test_pieces(self):
        self.assertEqual(pieces(Network([0], [])), ((0,),))
        network = Network([0] * 7, [(0, 5), (5, 3), (1, 6), (4, 6), (1, 4)])
        self.assertEqual(pieces(network), ((0, 3, 5), (1, 4, 6), (2,)))
        self.assertEqual(pieces(Network([0] * 64, [(at, at + 1) for at in range(63)])), (tuple(range(64)),))
        self.assertEqual(pieces(Network([0] * 64, [])), tuple((at,) for at in range(64)))
        self.assertEqual(pieces(network=Network([0] * 4, [(0, 3), (1, 2)])), ((0, 3), (1, 2)))

    def test_breaches(self):
        policy = Policy(2, [(0, (1,)), (1, (0, 0))])
        path = Network([0, 1, 0], [(0, 1), (1, 2)])
        self.assertEqual(breaches(policy, path), ())
        self.assertEqual(breaches(policy=policy, network=side_by_side([Network([0], []), path, Network([1, 3], [(0, 1)])])),
                         (0, 4, 5))
        self.assertEqual(breaches(Policy(1, []), path), (0, 1, 2))

    def test_totals(self):
        policy = Policy(2, [(1, (0, 0)), (0, (1,))])
        path = Network([0, 1, 0], [(0, 1), (1, 2)])
        # The views in order are (0, (1,)), (1, (0, 0)).
        self.assertEqual(total(policy, [5, -3], path), 7)
        self.assertEqual(mean(policy, [5, -3], path), (7, 3))
        self.assertEqual(total(policy=policy, scores=(1, 1), network=side_by_side([path, path])), 6)
        self.assertEqual(mean(policy=policy, scores=(1, 1), network=path), (1, 1))

    def test_totals_site_by_site(self):
        rng = dice(9)
        policy = everything(3)
        for many in (1, 6, 30, 64):
            modes, links = random_network_parts(rng, 3, many)
            scores = [rng.randint(-1000, 1000) for _ in policy.views]
            plain = sum(scores[policy.views.index(view)] for view in walked_views(modes, links))
            network = Network(modes, links)
            self.assertEqual(total(policy, scores, network), plain)
            self.assertEqual(mean(policy, scores, network), pair(Fraction(plain, many)))

    def test_totals_refuse(self):
        policy = Policy(2, [(0, (1,)), (1, (0, 0))])
        wrong = side_by_side([Network([0, 1, 0], [(0, 1), (1, 2)]), Network([1, 1], [])])
        for work in (total, mean):
            self.refused(NotObeyed, 3, lambda: work(policy, [1, 2], wrong))
            self.refused(InvalidScore, 1, lambda: work(policy, [1, None], wrong))
            self.refused(InvalidScore, 2, lambda: work(policy, [1], wrong))
            for value in ODD:
                self.refused(InvalidScore, 2, lambda: work(policy, value, wrong))


if __name__ == "__main__":
    unittest.main()

"""[71]: covers by turns and by shifts, and what lies over what."""

import unittest

from plain import ODD, Agreeable, Case, dice, random_network_parts, walked_views
from test_common import lies_over

from handalong.covers import cover, is_over, shifted
from handalong.errors import InvalidQuestion, Refused
from handalong.networks import Network, pieces


def plain_cover(modes, links, copies, turns):
    told = []
    for (i, j), turn in zip(sorted(links), turns):
        for u in range(copies):
            told.append((i * copies + u, j * copies + turn[u]))
    return Network([mode for mode in modes for _ in range(copies)], told)


class Covers(Case):
    def test_random_networks(self):
        rng = dice(711)
        for at in range(80):
            modes, links = random_network_parts(rng, at % 4 + 1, rng.randint(1, 8))
            network = Network(modes, links)
            copies = rng.choice((1, 2, 3, 5))
            turns = [rng.sample(range(copies), copies) for _ in links]
            if at % 2:
                turns = tuple(tuple(turn) for turn in turns)
            told = cover(network, copies, turns)
            self.assertEqual(told, plain_cover(modes, links, copies, turns))
            sites = tuple(site for site in range(len(modes)) for _ in range(copies))
            self.assertTrue(lies_over(told, network, sites))
            self.assertIs(is_over(told, network, sites), True)
            views = walked_views(modes, links)
            self.assertEqual(told.site_views(), tuple(views[site] for site in sites))
            shifts = [rng.randint(-7, 7) for _ in links]
            again = shifted(network, copies, shifts)
            self.assertEqual(again, plain_cover(modes, links, copies, [[(u + s) % copies for u in range(copies)] for s in shifts]))
            self.assertIs(is_over(again, network, sites), True)

    def test_by_hand(self):
        pair = Network([0, 1], [(0, 1)])
        self.assertEqual(cover(network=pair, copies=2, turns=[[1, 0]]), Network([0, 0, 1, 1], [(0, 3), (1, 2)]))
        self.assertEqual(shifted(network=pair, copies=3, shifts=(-10 ** 30,)), shifted(pair, 3, [(-10 ** 30) % 3]))
        self.assertEqual(shifted(pair, 3, [-1]), Network([0] * 3 + [1] * 3, [(0, 5), (1, 3), (2, 4)]))
        self.assertEqual(cover(pair, 1, ([0],)), pair)
        self.assertEqual(cover(Network([2], []), 4, ()), Network([2] * 4, []))
        ring = Network([0] * 3, [(0, 1), (1, 2), (0, 2)])
        self.assertEqual(len(pieces(shifted(ring, 1000, [1, 0, 0]))), 1)
        self.assertEqual(len(pieces(shifted(ring, 1000, [0, 0, 0]))), 1000)

    def test_errors(self):
        pair = Network([0, 1], [(0, 1)])
        path = Network([0, 1, 0], [(0, 1), (1, 2)])
        for work in (cover, shifted):
            for value in ODD + [0, 1001, -1, (1,)]:
                self.refused(InvalidQuestion, 1, lambda: work(pair, value, None))
            for value in ODD + [[], (), [0, 0, 0], ([0], [0], [0])]:
                self.refused(InvalidQuestion, 2, lambda: work(path, 2, value))
            self.refused(InvalidQuestion, 2, lambda: work(Network([0], []), 1, [0]))
        for value in ODD + [3, [], [0], (0, 0), [0, 2], [0, 1, 0], [True, False], [0, True], [0, None], ["0", "1"], [1, 0, 2], [-1, 0], {0: 1}]:
            self.refused(Refused, 1, lambda: cover(path, 2, [[1, 0], value]))
            self.refused(Refused, 0, lambda: cover(path, 2, (value, None)))
        for value in ODD + [(1,), [1]]:
            self.refused(Refused, 1, lambda: shifted(path, 2, [5, value]))
            self.refused(Refused, 0, lambda: shifted(path, 2, (value, None)))
        turns = [[1, 0], [0, 1]]
        cover(path, 2, turns)
        self.assertEqual(turns, [[1, 0], [0, 1]])

    def test_is_over(self):
        rng = dice(712)
        kinds = set()
        for at in range(250):
            modes, links = random_network_parts(rng, at % 2 + 1, rng.randint(1, 5))
            base = Network(modes, links)
            network = shifted(base, 2, [rng.randint(0, 1) for _ in links])
            sites = [site for site in range(len(modes)) for _ in range(2)]
            if at % 3 == 0:
                sites[rng.randrange(len(sites))] = rng.randrange(len(modes))
            if at % 5 == 0:
                told = list(network.modes)
                told[rng.randrange(len(told))] = 3
                network = Network(told, network.links)
            if at % 7 == 0 and network.links:
                network = Network(network.modes, network.links[1:])
            order = rng.sample(range(len(sites)), len(sites))
            network = Network([network.modes[order.index(site)] for site in range(len(sites))],
                              [(order[i], order[j]) for i, j in network.links])
            sites = [sites[order.index(site)] for site in range(len(sites))]
            for asked in (True, False):
                right = lies_over(network, base, sites, modes=asked)
                kinds.add((asked, right))
                self.assertIs(is_over(network, base, tuple(sites), modes=asked), right)
            self.assertIs(is_over(network, base, list(sites)), False)
            self.assertIs(is_over(network, base, tuple(sites[:-1])), False)
            self.assertIs(is_over(network, base, tuple(sites) + (0,), modes=False), False)
            for odd in (None, True, 1.0, len(modes), -1, "0", (0,), Agreeable()):
                self.assertIs(is_over(network, base, tuple(sites[:-1]) + (odd,), modes=False), False)
        self.assertEqual(len(kinds), 4)
        for value in ODD + [0, ()]:
            self.assertIs(is_over(network=Network([0], []), base=Network([0], []), sites=value), False)
        self.assertIs(is_over(Network([0], []), Network([1, 0], []), (1,)), True)
        self.assertIs(is_over(Network([0], []), Network([1, 0], []), (0,)), False)
        self.assertIs(is_over(Network([0], []), Network([1, 0], []), (0,), modes=False), True)

    def test_unlike_degrees(self):
        """Two neighbours over one, or a missing one, are no cover."""
        path = Network([0] * 3, [(0, 1), (1, 2)])
        pair = Network([0] * 2, [(0, 1)])
        self.assertIs(is_over(path, pair, (0, 1, 0)), False)
        self.assertIs(is_over(pair, path, (0, 1)), False)
        self.assertIs(is_over(pair, pair, (1, 0)), True)
        self.assertIs(is_over(pair, pair, (1, 1)), False)


if __name__ == "__main__":
    unittest.main()

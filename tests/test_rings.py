"""[72], [73]: rings, girths, doubled networks, walks that come back."""

import unittest

from plain import ODD, Case, dice, random_network_parts
from test_common import lies_over, near_sites, ring

from handalong.covers import shifted
from handalong.errors import InvalidQuestion
from handalong.networks import Network
from handalong.rings import back_times, doubled, girth, reduced, shortest_ring


def all_rings(many, links, most):
    """All rings of at most so many sites, as tuples from each site on, both ways round."""
    near = near_sites(many, links)
    found = []

    def go(path):
        for other in near[path[-1]]:
            if other == path[0] and len(path) > 2:
                found.append(tuple(path))
            if other not in path and len(path) < most:
                go(path + [other])
    for site in range(many):
        go([site])
    return found


def plain_girth(many, links):
    """By going round from each site: without a link, the way from one of its ends to the other."""
    near = near_sites(many, links)
    best = None
    for i, j in links:
        away = {i: 0}
        row = [i]
        while row and j not in away:
            behind = []
            for site in row:
                for other in near[site]:
                    if {site, other} != {i, j} and other not in away:
                        away[other] = away[site] + 1
                        behind.append(other)
            row = behind
        if j in away:
            best = away[j] + 1 if best is None else min(best, away[j] + 1)
    return best


def plain_closing(many, links):
    """The links that join what links before them have joined."""
    found = []
    for at, (i, j) in enumerate(links):
        near = near_sites(many, links[:at])
        reached, waiting = {i}, [i]
        while waiting:
            for other in near[waiting.pop()]:
                if other not in reached:
                    reached.add(other)
                    waiting.append(other)
        if j in reached:
            found.append((i, j))
    return found


def plain_doubled(network):
    closing = plain_closing(len(network.modes), network.links)
    copies = 2 ** len(closing)
    links = []
    for link in network.links:
        flip = 2 ** closing.index(link) if link in closing else 0
        links += [(link[0] * copies + u, link[1] * copies + (u ^ flip)) for u in range(copies)]
    return Network([mode for mode in network.modes for _ in range(copies)], links), copies


def followed(network, base, copies, walk, start):
    """A walk of the base, followed in the network over it from a site on."""
    path = [start]
    for site in walk[1:]:
        path.append(next(other for other in network.neighbours(path[-1]) if other // copies == site))
    return path


def small_networks(seed, many):
    """Networks with few closing links."""
    rng = dice(seed)
    for at in range(many):
        while True:
            modes, links = random_network_parts(rng, at % 3 + 1, rng.randint(1, 9), tries=rng.randint(1, 14))
            if len(plain_closing(len(modes), links)) <= 4:
                break
        yield rng, Network(modes, links)


class Rings(Case):
    def test_random_networks(self):
        rng = dice(721)
        lengths = set()
        for at in range(300):
            modes, links = random_network_parts(rng, 1, rng.randint(1, 10), tries=rng.randint(0, 16))
            network = Network(modes, links)
            least = plain_girth(len(modes), links)
            lengths.add(least)
            self.assertEqual(girth(network), least)
            if least is None:
                self.assertIsNone(shortest_ring(network))
                continue
            told = shortest_ring(network)
            self.all_tuples(told)
            self.assertEqual(told, min(found for found in all_rings(len(modes), links, least) if len(found) == least))
        self.assertLessEqual({None, 3, 4, 5, 6}, lengths)

    def test_renumbered_rings(self):
        """Rings whose sites are in no order, with trees and other rings beside them."""
        rng = dice(722)
        for size in list(range(3, 14)) + [40, 64]:
            order = rng.sample(range(size), size)
            links = [(order[at], order[at - 1]) for at in range(size)]
            network = Network([0] * size, links)
            self.assertEqual(girth(network), size)
            at = order.index(0)
            ways = [tuple(order[(at + step * k) % size] for k in range(size)) for step in (1, -1)]
            self.assertEqual(shortest_ring(network), min(ways))

    def test_by_hand(self):
        self.assertIsNone(girth(network=Network([0], [])))
        self.assertIsNone(shortest_ring(network=Network([0] * 4, [(0, 1), (1, 2), (2, 3)])))
        cube = Network([0] * 8, [(i, i ^ bit) for i in range(8) for bit in (1, 2, 4) if i < i ^ bit])
        self.assertEqual((girth(cube), shortest_ring(cube)), (4, (0, 1, 3, 2)))
        petersen = Network([0] * 10, [(0, 1), (1, 2), (2, 3), (3, 4), (0, 4), (0, 5), (1, 6), (2, 7), (3, 8), (4, 9),
                                      (5, 7), (7, 9), (6, 9), (6, 8), (5, 8)])
        self.assertEqual((girth(petersen), shortest_ring(petersen)), (5, (0, 1, 2, 3, 4)))
        two = Network([0] * 9, [(0, 1), (1, 2), (2, 3), (3, 4), (0, 4), (5, 6), (6, 7), (7, 8), (5, 8)])
        self.assertEqual((girth(two), shortest_ring(two)), (4, (5, 6, 7, 8)))

    def test_large(self):
        network = shifted(ring([0] * 5), 100, [1, 0, 0, 0, 0])
        self.assertEqual((girth(network), len(shortest_ring(network))), (500, 500))
        twice = doubled(ring([0] * 64))
        self.assertEqual(girth(doubled(doubled(twice))), 512)

    def test_doubled(self):
        kinds = set()
        for _, network in small_networks(723, 60):
            told = doubled(network)
            plain, copies = plain_doubled(network)
            self.assertEqual(told, plain)
            self.assertTrue(lies_over(told, network, [site for site in range(len(network.modes)) for _ in range(copies)]))
            least = girth(network)
            kinds.add(copies)
            self.assertEqual(girth(told), None if least is None else 2 * least)
        self.assertLessEqual({1, 2, 4, 8, 16}, kinds)
        tree = Network([0, 1], [(0, 1)])
        self.assertEqual(doubled(network=tree), tree)


class Walks(Case):
    def random_walk(self, rng, network, most):
        walk = [rng.randrange(len(network.modes))]
        for _ in range(rng.randint(0, most)):
            near = network.neighbours(walk[-1])
            if near:
                walk.append(rng.choice(near))
        return walk

    def test_followed(self):
        """In the doubled networks themselves, as far as they are not too large."""
        seen = set()
        for at, (rng, network) in enumerate(small_networks(731, 300)):
            if at % 3 == 0:
                network = ring([0] * rng.randint(3, 5))
            walk = self.random_walk(rng, network, 14)
            if rng.random() < 0.4:
                walk = walk + walk[-2::-1]
            left = list(walk)
            again = True
            while again:
                again = False
                for at in range(len(left) - 2):
                    if left[at] == left[at + 2]:
                        left = left[:at + 1] + left[at + 3:]
                        again = True
                        break
            self.assertEqual(reduced(network, walk), tuple(left))
            self.assertEqual(reduced(network, tuple(walk)), tuple(left))
            times = back_times(network, walk)
            self.assertEqual(times is None, len(left) == 1)
            now, path, count = network, list(walk), 0
            while path[0] == path[-1] and count < 3:
                closing = len(plain_closing(len(now.modes), now.links))
                if len(now.modes) * 2 ** closing > 1500:
                    break
                count += 1
                over, copies = plain_doubled(now)
                path = followed(over, now, copies, path, path[0] * copies + rng.randrange(copies))
                now = over
            else:
                if path[0] != path[-1]:
                    self.assertEqual(times, count)
                    seen.add(count)
                continue
            self.assertTrue(times is None or times >= count)
            seen.add((times is None, count > 0))
        self.assertLessEqual({0, 1, 2, (True, True)}, seen)

    def test_long_walks(self):
        """Round a ring 2 ^ k times: it comes back in k + 1 of the networks."""
        for size in (3, 5, 8):
            network = ring([0] * size)
            for times in range(1, 40):
                walk = [0] + [at % size for _ in range(times) for at in range(1, size + 1)]
                power = (times & -times).bit_length()
                self.assertEqual(back_times(network, walk), power)
                self.assertEqual(back_times(network, walk[:-1]), 0)
                self.assertGreaterEqual(len(walk) - 1, size << power - 1)
                self.assertEqual(reduced(network, walk), tuple(walk))
                self.assertEqual(reduced(network, walk + walk[-2::-1]), (0,))
                self.assertIsNone(back_times(network, walk + walk[-2::-1]))

    def test_commutators(self):
        """Two rings with one site in common, walked by turns, come back in the doubled network."""
        network = Network([0] * 5, [(0, 1), (1, 2), (0, 2), (0, 3), (3, 4), (0, 4)])
        a, b = [1, 2, 0], [3, 4, 0]
        back_a, back_b = [2, 1, 0], [4, 3, 0]
        self.assertEqual(back_times(network, [0] + a), 1)
        self.assertEqual(back_times(network, [0] + a + b + back_a + back_b), 2)
        self.assertEqual(back_times(network, [0] + a + b + a + b), 2)
        self.assertEqual(back_times(network, [0] + a + a + b + b + back_a + back_a + back_b + back_b), 3)
        self.assertIsNone(back_times(network, [0] + a + b + back_b + back_a))

    def test_parities(self):
        """A place in the next network is one in this network and the links passed an odd number of times on the way."""
        rng = dice(732)
        seen = set()
        for at in range(600):
            modes, links = random_network_parts(rng, 1, rng.randint(3, 6), tries=14)
            network = Network(modes, links)
            first = self.random_walk(rng, network, 9)
            walk = first + self.random_walk_from(rng, network, first[-1], 5)
            if rng.random() < 0.3:
                more = self.random_walk_from(rng, network, walk[-1], 4)
                walk = walk + more + (more[-2::-1] + [walk[-1]] if more else [])
            if walk[0] == walk[-1] and len(walk) > 1:
                walk = walk + walk[1:] * rng.randint(0, 3)
            places, count = list(walk), 0
            while places[0] == places[-1] and count < 12:
                odd, found = frozenset(), [(places[0], frozenset())]
                for one, other in zip(places, places[1:]):
                    odd = odd ^ {frozenset((one, other))}
                    found.append((other, odd))
                known = {}
                places = [known.setdefault(place, len(known)) for place in found]
                count += 1
            told = back_times(network, walk)
            self.assertEqual(told, None if count == 12 else count)
            seen.add(told)
        self.assertLessEqual({None, 0, 1, 2, 3}, seen)

    def random_walk_from(self, rng, network, site, most):
        """The further sites of a walk."""
        walk = [site]
        for _ in range(rng.randint(0, most)):
            near = network.neighbours(walk[-1])
            if near:
                walk.append(rng.choice(near))
        return walk[1:]

    def test_errors(self):
        network = Network([0] * 4, [(0, 1), (1, 2)])
        for work in (back_times, reduced):
            for value in ODD + [5, (), []]:
                self.refused(InvalidQuestion, 0, lambda: work(network, value))
            for odd in ODD + [4, -1, (1,), 3, 2, 0]:
                self.refused(InvalidQuestion, 1, lambda: work(network, [0, odd, None]))
                self.refused(InvalidQuestion, 2, lambda: work(network, (2, 1, odd)) if odd not in (0, 2) else work(network, (0, 1, 3)))
            for odd in ODD + [4, -1]:
                self.refused(InvalidQuestion, 0, lambda: work(network, [odd, 1]))
            self.assertIn(work(network=network, walk=[3]), (None, (3,)))
        self.assertEqual(back_times(network, [0, 1]), 0)
        self.assertEqual(reduced(network, [0, 1, 2, 1]), (0, 1))
        walk = [0, 1, 0]
        reduced(network, walk)
        back_times(network, walk)
        self.assertEqual(walk, [0, 1, 0])


if __name__ == "__main__":
    unittest.main()

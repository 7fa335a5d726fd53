"""[77], [78]: exchanges of two links, networks seen alike and the row of exchanges between them."""

import unittest
from itertools import permutations

from plain import ODD, Agreeable, Case, dice, random_network_parts, simple_graphs, walked_views
from test_common import near_sites

from handalong.errors import Refused
from handalong.exchanges import exchange_row, exchanged, exchanges, plain_circuit, seen_alike, shortened
from handalong.networks import Network


def plain_exchanged(network, one, other):
    """By the words of [77]: the network, or None."""
    (a, b), (c, d) = one, other
    near = near_sites(len(network.modes), network.links)
    if len({a, b, c, d}) < 4 or network.modes[a] != network.modes[c] or network.modes[b] != network.modes[d]:
        return None
    if d in near[a] or b in near[c]:
        return None
    links = {frozenset(link) for link in network.links} - {frozenset(one), frozenset(other)}
    return Network(network.modes, [tuple(link) for link in links | {frozenset((a, d)), frozenset((c, b))}])


def check_row(case, one, other, row):
    """That a row leads from one network to another one by exchanges, and is short enough."""
    case.assertIs(type(row), tuple)
    case.assertEqual((row[0], row[-1]), (one, other))
    case.assertLessEqual(len(row) - 1, len(set(one.links) - set(other.links)))
    for before, behind in zip(row, row[1:]):
        gone, new = sorted(set(before.links) - set(behind.links)), sorted(set(behind.links) - set(before.links))
        case.assertEqual((len(gone), len(new)), (2, 2))
        case.assertEqual(before.modes, behind.modes)
        found = [plain_exchanged(before, gone[0], other_link) for other_link in (gone[1], gone[1][::-1])]
        case.assertIn(behind, found)


def mixed_up(rng, network, many):
    """A network behind some exchanges."""
    for _ in range(many):
        choices = exchanges(network)
        if choices:
            network = exchanged(network, *rng.choice(choices))
    return network


def long_circuit(rng, one, other):
    """A circuit that goes on, wherever it comes by, until no link is left at its end; None if both are equal."""
    mine, theirs = [set(x.links) - set(y.links) for x, y in ((one, other), (other, one))]
    if not mine:
        return None
    start = rng.choice(sorted(mine))[0]
    path = [start]
    while True:
        left = theirs if len(path) % 2 == 0 else mine
        choices = [link for link in sorted(left) if path[-1] in link]
        if not choices:
            return path[:-1]
        link = rng.choice(choices)
        left.remove(link)
        path.append(link[0] if link[1] == path[-1] else link[1])


class Exchanges(Case):
    def test_random_networks(self):
        rng = dice(771)
        sizes = set()
        for at in range(120):
            modes, links = random_network_parts(rng, at % 3 + 1, rng.randint(1, 8), tries=rng.randint(0, 20))
            network = Network(modes, links)
            found = []
            for i, one in enumerate(network.links):
                for other in network.links[i + 1:]:
                    found += [(one, turned) for turned in (other, other[::-1]) if plain_exchanged(network, one, turned)]
            told = exchanges(network)
            self.assertEqual(told, tuple(sorted(found)))
            self.all_tuples(told)
            sizes.add(min(len(told), 2))
            self.assertEqual(len({exchanged(network, *pair).links for pair in told} | {network.links}), len(told) + 1)
            ordered = list(network.links) + [link[::-1] for link in network.links]
            for _ in range(8 if ordered else 0):
                one, other = rng.choice(ordered), rng.choice(ordered)
                right = plain_exchanged(network, one, other)
                if right is None:
                    self.refused(Refused, 1, lambda: exchanged(network, one, other))
                else:
                    self.assertEqual(exchanged(network, one, other), right)
                    self.assertTrue(seen_alike(network, right))
        self.assertEqual(sizes, {0, 1, 2})

    def test_refusals(self):
        network = Network([0] * 5, [(0, 1), (2, 3), (1, 2)])
        for value in ODD + [5, (), (0,), (0, 1, 2), [0, 1], (0, 2), (4, 0), (0, 5), (-1, 0), (0, True), (False, 1), (0, 0),
                            ("0", "1"), (0.0, 1)]:
            self.refused(Refused, 0, lambda: exchanged(network, value, (2, 3)))
            self.refused(Refused, 0, lambda: exchanged(network, (2, 3), value))
            self.refused(Refused, 0, lambda: exchanged(network, value, None))
        self.refused(Refused, 1, lambda: exchanged(network, (0, 1), (1, 2)))
        self.refused(Refused, 1, lambda: exchanged(network, (0, 1), (0, 1)))
        self.refused(Refused, 1, lambda: exchanged(network, (0, 1), (1, 0)))
        # (1, 2) is linked: of the two ways only the other one is left.
        self.refused(Refused, 1, lambda: exchanged(network, (0, 1), (2, 3)))
        self.assertEqual(exchanged(network=network, one=(0, 1), other=(3, 2)).links, ((0, 2), (1, 2), (1, 3)))
        self.refused(Refused, 1, lambda: exchanged(Network([0, 1, 1, 1], [(0, 1), (2, 3)]), (0, 1), (2, 3)))
        self.refused(Refused, 1, lambda: exchanged(Network([0, 1, 0, 2], [(0, 1), (2, 3)]), (0, 1), (2, 3)))
        self.assertEqual(exchanges(network=Network([0], [])), ())
        self.assertEqual(exchanges(Network([0] * 4, [(0, 1), (2, 3)])), (((0, 1), (2, 3)), ((0, 1), (3, 2))))

    def test_seen_alike(self):
        rng = dice(781)
        kinds = set()
        for at in range(100):
            modes, links = random_network_parts(rng, at % 2 + 1, rng.randint(1, 7))
            one = Network(modes, links)
            other = mixed_up(rng, one, 3)
            if at % 3 == 0:
                more = random_network_parts(rng, at % 2 + 1, rng.randint(len(modes), len(modes) + 1))
                other = Network(*more)
            alike = walked_views(one.modes, one.links) == walked_views(other.modes, other.links)
            kinds.add((alike, one == other))
            self.assertIs(seen_alike(one, other), alike)
            if alike:
                check_row(self, one, other, exchange_row(one, other))
            else:
                self.assertIsNone(exchange_row(one, other))
        self.assertEqual(kinds, {(True, True), (True, False), (False, False)})
        self.assertIs(seen_alike(one=Network([0], []), other=Network([0, 0], [])), False)
        self.assertEqual(exchange_row(one=Network([0], []), other=Network([0], [])), (Network([0], []),))

    def test_all_graphs(self):
        """All pairs of networks of five sites in one mode that are seen alike."""
        by_degrees = {}
        for graph in simple_graphs(5):
            network = Network([0] * 5, graph)
            by_degrees.setdefault(network.site_views(), []).append(network)
        many = 0
        for row in by_degrees.values():
            for one, other in list(permutations(row, 2))[::7]:
                many += 1
                check_row(self, one, other, exchange_row(one, other))
        self.assertGreater(many, 400)

    def test_dense_graphs(self):
        """Many links that only one of both has: circuits that pass a site twice."""
        rng = dice(782)
        longest = 0
        for at in range(150):
            many = rng.randint(5, 12)
            one = Network([site * (at % 3) // many for site in range(many)], random_network_parts(rng, 1, many, tries=80)[1])
            other = mixed_up(rng, one, 25)
            row = exchange_row(one, other)
            longest = max(longest, len(row))
            check_row(self, one, other, row)
        self.assertGreater(longest, 8)

    def test_circuits_crosswise(self):
        """Two 4-regular rings of nine sites that share no link, so that all circuits pass sites twice."""
        one = Network([0] * 9, [(i, (i + k) % 9) for i in range(9) for k in (1, 2)])
        for k in (3, 4):
            other = Network([0] * 9, [(i, (i + j) % 9) for i in range(9) for j in (k, 4 if k == 3 else 2)])
            check_row(self, one, other, exchange_row(one, other))
        five = Network([0] * 5, [(i, (i + 1) % 5) for i in range(5)])
        star = Network([0] * 5, [(i, (i + 2) % 5) for i in range(5)])
        check_row(self, five, star, exchange_row(five, star))

    def test_nested_rounds(self):
        """Circuits whose first two or three sites are passed twice, each within the round of the one before."""
        rng = dice(785)
        for circuit in ([0, 1, 2, 3, 1, 4, 5, 0, 6, 7], [0, 1, 2, 3, 4, 2, 5, 6, 1, 7, 8, 0, 9, 10]):
            names = list(range(max(circuit) + 1))
            for _ in range(60):
                links = [(names[i], names[j]) for i, j in zip(circuit, circuit[1:] + circuit[:1])]
                one, other = [Network([0] * len(names), links[first::2]) for first in (0, 1)]
                for before, behind in ((one, other), (other, one)):
                    plain = plain_circuit(before, behind)
                    self.check_circuit(before, behind, plain)
                    self.assertEqual(plain.count(plain[0]), 1)
                    check_row(self, before, behind, exchange_row(before, behind))
                rng.shuffle(names)

    def test_shortened_circuits(self):
        """Long circuits that pass sites several times fall into shorter ones, at last one that passes a site once."""
        rng = dice(784)
        crosswise = 0
        for at in range(1500):
            many = rng.randint(5, 8)
            one = Network([0] * many, random_network_parts(rng, 1, many, tries=40)[1])
            other = mixed_up(rng, one, 12)
            circuit = long_circuit(rng, one, other)
            if circuit is None:
                continue
            plain = plain_circuit(one, other)
            self.check_circuit(one, other, plain)
            self.assertEqual(plain.count(plain[0]), 1)
            crosswise += all(circuit.count(site) == 2 for site in circuit)
            length = len(circuit) + 1
            while circuit is not None:
                self.check_circuit(one, other, circuit)
                self.assertLess(len(circuit), length)
                length, last, circuit = len(circuit), circuit, shortened(circuit)
            for half in (last[::2], last[1::2]):
                self.assertEqual(len(set(half)), len(half))
            self.assertIn(1, [last.count(site) for site in last])
        self.assertGreater(crosswise, 3)

    def check_circuit(self, one, other, circuit):
        """That a circuit leads along unlike links, by turns of the first network alone and of the other one alone."""
        links = [tuple(sorted((site, circuit[(at + 1) % len(circuit)]))) for at, site in enumerate(circuit)]
        self.assertEqual(len(set(links)), len(links))
        self.assertEqual(len(links) % 2, 0)
        self.assertLessEqual(set(links[::2]), set(one.links) - set(other.links))
        self.assertLessEqual(set(links[1::2]), set(other.links) - set(one.links))

    def test_large(self):
        rng = dice(783)
        one = Network(*random_network_parts(rng, 2, 64, tries=400))
        other = one
        for _ in range(600):
            first, second = rng.sample(other.links, 2)
            behind = plain_exchanged(other, first, second[::rng.choice((1, -1))])
            other = behind or other
        row = exchange_row(one, other)
        check_row(self, one, other, row)
        self.assertGreater(len(row), 30)

    def test_odd_values(self):
        network = Network([0, 0], [(0, 1)])
        self.refused(Refused, 0, lambda: exchanged(network, Agreeable(), Agreeable()))


if __name__ == "__main__":
    unittest.main()

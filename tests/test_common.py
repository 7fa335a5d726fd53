"""[74] to [76]: classes, common covers, rows that show apart, standing covers, joint policies, standings."""

import unittest
from fractions import Fraction
from itertools import combinations, product

from plain import (ODD, Agreeable, Case, dice, plain_elements, plain_mean, random_network_parts, random_policy_views,
                   variations, walked_views)

from handalong.common import apart, classes, common_cover, joint, shares_of, shows_apart, standing_cover, standings
from handalong.errors import InvalidQuestion, InvalidScore
from handalong.laid import ends_of
from handalong.means import least_mean
from handalong.networks import Network, mean, pieces, side_by_side
from handalong.policies import Policy
from handalong.views import all_views


def near_sites(many, links):
    near = [[] for _ in range(many)]
    for i, j in links:
        near[i].append(j)
        near[j].append(i)
    return near


def plain_classes(colours, links):
    """Parts that are parted again and again, until nothing is parted."""
    near = near_sites(len(colours), links)
    parts = list(colours)
    while True:
        names = [(parts[at], tuple(sorted(parts[other] for other in near[at]))) for at in range(len(parts))]
        again = [names.index(name) for name in names]
        if len(set(again)) == len(set(parts)):
            order = list(dict.fromkeys(again))
            return tuple(order.index(part) for part in again)
        parts = again


def lies_over(network, base, sites, modes=True):
    """[71], walked site by site."""
    if len(sites) != len(network.modes):
        return False
    near, below = near_sites(len(network.modes), network.links), near_sites(len(base.modes), base.links)
    for at, site in enumerate(sites):
        if modes and network.modes[at] != base.modes[site]:
            return False
        if sorted(sites[other] for other in near[at]) != sorted(below[site]):
            return False
    return True


def whole_network(rng, modes, many, tries):
    """A random network that hangs together."""
    while True:
        network = Network(*random_network_parts(rng, modes, many, tries=tries))
        if len(pieces(network)) == 1:
            return network


def even_network(rng, many, degree):
    """A random network with so many links at each site, perhaps in pieces."""
    while True:
        ends = [at for at in range(many) for _ in range(degree)]
        rng.shuffle(ends)
        links = {tuple(sorted(pair)) for pair in zip(ends[::2], ends[1::2])}
        if len(links) == many * degree // 2 and all(i != j for i, j in links):
            return Network([rng.randrange(3) for _ in range(many)], sorted(links))


def ring(modes):
    many = len(modes)
    return Network(modes, [(at, (at + 1) % many) for at in range(many)])


def judge_apart(one, other, value, modes):
    """[75], pair by pair."""
    both = side_by_side([one, other])
    many = len(both.modes)
    if type(value) is not tuple or not value:
        return False
    for row in value:
        if type(row) is not tuple or len(row) != many or any(type(x) is not int for x in row):
            return False
    near = near_sites(many, both.links)
    for x, y in product(range(many), repeat=2):
        if value[0][x] != value[0][y] and not (modes and both.modes[x] != both.modes[y]):
            return False
        for before, row in zip(value, value[1:]):
            if row[x] != row[y] and before[x] == before[y]:
                counts = [[sum(before[w] == n for w in near[z]) for n in before] for z in (x, y)]
                if counts[0] == counts[1]:
                    return False
    return not set(value[-1][:len(one.modes)]) & set(value[-1][len(one.modes):])


def some_pairs(seed, many):
    """Pairs of networks that hang together; many have common covers."""
    rng = dice(seed)
    for at in range(many):
        one = whole_network(rng, at % 3 + 1, rng.randint(1, 8), 30)
        yield one, whole_network(rng, at % 3 + 1, rng.randint(1, 8), 30)
        yield one, one
        degree = at % 3 + 2
        pairs = [even_network(rng, rng.choice((6, 8)), degree) for _ in range(2)]
        if all(len(pieces(network)) == 1 for network in pairs):
            yield tuple(Network([0] * len(network.modes), network.links) for network in pairs)
            yield tuple(pairs)
    yield ring([0, 1] * 4), ring([0, 1] * 3)
    yield ring([0, 1, 1] * 2), ring([0, 1, 1])
    yield ring([0, 0, 1] * 2), ring([0, 1, 1])
    yield Network([0], []), Network([0], [])
    yield Network([0], []), Network([1], [])
    yield Network([0, 0], [(0, 1)]), Network([0], [])
    yield lone_stars()


def lone_stars():
    """Two networks of classes with unlike numbers of links, and with unlike numbers of sites."""
    one = Network([0, 1, 1, 1, 1], [(0, 1), (0, 2), (0, 3), (0, 4), (1, 2), (3, 4)])
    other = Network([0, 1, 1, 1, 1], [(0, 1), (0, 2), (0, 3), (0, 4), (1, 3), (2, 4)])
    return one, other


class Classes(Case):
    def test_random_networks(self):
        rng = dice(741)
        sizes = set()
        for at in range(150):
            modes, links = random_network_parts(rng, at % 3 + 1, rng.randint(1, 12), tries=rng.randint(0, 20))
            if at % 4 == 0:
                network = even_network(rng, 8, 3)
                modes, links = [mode // 2 for mode in network.modes], network.links
            network = Network(modes, links)
            for asked in (True, False):
                told = classes(network, modes=asked)
                self.assertEqual(told, plain_classes(modes if asked else [0] * len(modes), links))
                self.all_tuples(told)
                sizes.add((asked, max(told) == 0, max(told) == len(modes) - 1))
            self.assertEqual(classes(network), classes(network, modes=True))
        self.assertGreaterEqual(len(sizes), 6)

    def test_by_hand(self):
        self.assertEqual(classes(network=Network([3, 1, 3], []), modes=True), (0, 1, 0))
        self.assertEqual(classes(Network([3, 1, 3], []), modes=False), (0, 0, 0))
        path = Network([0] * 5, [(0, 1), (1, 2), (2, 3), (3, 4)])
        self.assertEqual(classes(path), (0, 1, 2, 1, 0))
        self.assertEqual(classes(ring([0, 1, 0, 1])), (0, 1, 0, 1))
        self.assertEqual(classes(ring([0, 1, 0, 1]), modes=False), (0, 0, 0, 0))


class Common(Case):
    def test_pairs(self):
        kinds = set()
        for one, other in some_pairs(742, 25):
            for asked in (True, False):
                colours = one.modes + other.modes if asked else (0,) * len(one.modes + other.modes)
                row = plain_classes(colours, side_by_side([one, other]).links)
                shared = set(row[:len(one.modes)]) & set(row[len(one.modes):])
                answer = common_cover(one, other, modes=asked)
                rows = apart(one, other, modes=asked)
                kinds.add((asked, bool(shared), one == other))
                self.assertEqual(answer is not None, bool(shared))
                self.assertEqual(rows is None, bool(shared))
                if shared:
                    network, sites, others = answer
                    self.all_tuples((sites, others))
                    self.assertTrue(lies_over(network, one, sites))
                    self.assertTrue(lies_over(network, other, others, modes=asked))
                    self.assertLessEqual(len(network.modes), 2000)
                    self.assertIs(type(answer), tuple)
                    continue
                self.all_tuples(rows)
                self.assertTrue(judge_apart(one, other, rows, asked))
                self.assertIs(shows_apart(one, other, rows, modes=asked), True)
                self.assertIs(shows_apart(one, other, rows, modes=not asked), judge_apart(one, other, rows, not asked))
                longer = rows[:1] + rows
                self.assertIs(shows_apart(one, other, longer, modes=asked), judge_apart(one, other, longer, asked))
        self.assertLessEqual({(True, True, False), (True, False, False), (False, True, False), (False, False, False),
                              (True, True, True), (False, True, True)}, kinds)

    def test_shows_apart(self):
        done = 0
        for at, (one, other) in enumerate(some_pairs(743, 12)):
            asked = bool(at % 2)
            rows = apart(one, other, modes=asked)
            values = list(ODD) + [(), ((),), rows]
            if rows is not None and len(one.modes + other.modes) < 11:
                done += 1
                values += list(variations(rows))
            many = len(one.modes) + len(other.modes)
            values += [((0,) * many,), (tuple(range(many)),), (one.modes + other.modes,), ((0,) * many, tuple(range(many)))]
            for value in values:
                self.assertIs(shows_apart(one, other, value, modes=asked), judge_apart(one, other, value, asked), value)
        self.assertGreater(done, 2)

    def test_neighbours_in_any_order(self):
        """Sites with the same integers around them, told in another order, are not shown apart by these."""
        one = Network([1, 2, 0], [(0, 2), (1, 2)])
        other = Network([2, 1, 0], [(0, 2), (1, 2)])
        rows = ((1, 2, 0, 2, 1, 0), (1, 2, 7, 2, 1, 8), (10, 11, 7, 12, 13, 8))
        self.assertFalse(judge_apart(one, other, rows, True))
        self.assertIs(shows_apart(one, other, rows), False)

    def test_shares(self):
        """The numbers over all sites of a class are as many for each class, and are parted evenly among the links."""
        rng = dice(745)
        for sizes, counts in (((4, 3), ((0, 3), (4, 0))), ((2, 6), ((0, 3), (1, 2))), ((8,), ((3,),)), ((1, 4), ((0, 4), (1, 2)))):
            network = classed_network(rng, sizes, counts)
            kinds = classes(network, modes=False)
            ends = ends_of(network, kinds)
            shares = shares_of(kinds, ends)
            self.assertEqual(len({share * kinds.count(kind) for share, kind in zip(shares, kinds)}), 1)
            for share, near in zip(shares, ends):
                self.assertTrue(all(share % len(row) == 0 for row in near.values() if row))
            self.assertLessEqual(max(shares), 12)

    def test_pieces_are_refused(self):
        fallen, whole = Network([0, 0], []), Network([0], [])
        for work in (common_cover, apart, lambda one, other, modes=True: shows_apart(one, other, None, modes=modes)):
            for asked in (True, False):
                self.refused(InvalidQuestion, 0, lambda: work(fallen, whole, modes=asked))
                self.refused(InvalidQuestion, 1, lambda: work(whole, fallen, modes=asked))
                self.refused(InvalidQuestion, 0, lambda: work(fallen, fallen, modes=asked))

    def test_by_hand(self):
        network, sites, others = common_cover(one=ring([0, 1] * 2), other=ring([0, 1] * 3))
        self.assertEqual(len(network.modes) % 12, 0)
        self.assertIsNone(common_cover(ring([0, 1] * 2), ring([0] * 3)))
        self.assertIsNotNone(common_cover(ring([0, 1] * 2), ring([0] * 3), modes=False))
        self.assertIsNone(apart(one=ring([0] * 4), other=ring([0] * 3)))
        self.assertEqual(apart(Network([0], []), Network([1], [])), ((0, 1),))
        self.assertIs(shows_apart(one=Network([0], []), other=Network([1], []), value=((-7, 100),)), True)
        self.assertIs(shows_apart(Network([0], []), Network([1], []), ((-7, 100),), modes=False), False)

    def test_large_covers(self):
        """Small networks whose covers are large."""
        most = 0
        rng = dice(744)
        for sizes, counts in (((8,), ((4,),)), ((2, 6), ((0, 3), (1, 2))), ((4, 4), ((1, 3), (3, 1))), ((4, 4), ((2, 1), (1, 3))),
                              ((2, 6), ((1, 3), (1, 3))), ((4, 4), ((1, 2), (2, 2))), ((2, 2, 4), ((1, 1, 2), (1, 0, 2), (1, 1, 2))),
                              ((4, 3), ((0, 3), (4, 0))), ((4, 4), ((0, 4), (4, 0))), ((1, 4), ((0, 4), (1, 2)))):
            for _ in range(6):
                one, other = [classed_network(rng, sizes, counts) for _ in range(2)]
                network, sites, others = common_cover(one, other, modes=False)
                most = max(most, len(network.modes))
                self.assertTrue(lies_over(network, one, sites))
                self.assertTrue(lies_over(network, other, others, modes=False))
        self.assertGreater(most, 100)
        self.assertLessEqual(most, 2000)


def classed_network(rng, sizes, counts):
    """A random network, in one piece, each class of which sees so many of each class."""
    kinds = [kind for kind, size in enumerate(sizes) for _ in range(size)]
    while True:
        links = []
        for a in range(len(sizes)):
            for b in range(a, len(sizes)):
                ends = [[at for at, kind in enumerate(kinds) if kind == x for _ in range(counts[x][y])] for x, y in ((a, b), (b, a))]
                for row in ends:
                    rng.shuffle(row)
                links += zip(ends[0][::2], ends[0][1::2]) if a == b else zip(*ends)
        links = [tuple(sorted(link)) for link in links]
        if len(set(links)) == len(links) and all(i != j for i, j in links):
            network = Network([rng.randrange(2) for _ in kinds], links)
            if len(pieces(network)) == 1:
                return network


class Standings(Case):
    def test_standing_covers(self):
        rng = dice(761)
        seen = set()
        for at in range(60):
            degree = at % 5
            network = even_network(rng, rng.choice((6, 8, 16)) if degree > 2 else rng.randint(4, 16) // 2 * 2, degree)
            modes = at % 3 + 1
            pool = [view for view in all_views(modes, degree)]
            views = rng.sample(pool, min(len(pool), rng.randint(1, 8)))
            more = [view for view in random_policy_views(rng, modes, 3, 3) if view not in views]
            policy = Policy(modes, views + more)
            scores = [rng.randint(-9, 9) for _ in policy.views]
            alone = Policy(modes, views)
            worth = [scores[policy.views.index(view)] for view in policy.views if len(view[1]) == degree]
            alone = Policy(modes, [view for view in policy.views if len(view[1]) == degree])
            lots = plain_elements(alone)
            if not lots:
                self.without_network(lambda: standing_cover(network, policy, scores))
                seen.add("none")
                continue
            answer = standing_cover(network, policy, scores)
            cover, sites = answer
            self.assertIs(type(answer), tuple)
            self.all_tuples(sites)
            self.assertTrue(lies_over(cover, network, sites, modes=False))
            self.assertEqual(set(sites), set(range(len(network.modes))))
            self.assertLessEqual(set(cover.site_views()), set(alone.views))
            least = min(plain_mean(alone, worth, lot) for lot in lots)
            self.assertEqual(Fraction(*mean(policy, scores, cover)), least)
            seen.add((degree, len(pieces(network)) > 1))
        self.assertLessEqual({"none", (0, True), (1, True), (2, True), (2, False), (3, False), (4, False)}, seen)

    def test_odd_half_links(self):
        """The least collection has an odd number of half-links within a mode, so no network has it."""
        policy = Policy(2, [(0, (0, 0, 0)), (1, (1, 1, 1))])
        cover, sites = standing_cover(even_network(dice(762), 8, 3), policy, [1, 0])
        self.assertEqual(set(cover.modes), {1})
        self.assertTrue(len(sites) >= 8)

    def test_large(self):
        policy = Policy(3, all_views(3, 4))
        rng = dice(763)
        scores = [rng.randint(-50, 50) for _ in policy.views]
        network = even_network(rng, 16, 4)
        cover, sites = standing_cover(network, policy, scores)
        self.assertTrue(lies_over(cover, network, sites, modes=False))
        self.assertEqual(mean(policy, scores, cover), least_mean(policy, scores)[1])

    def test_errors(self):
        policy = Policy(2, [(0, (1,)), (1, (0,)), (1, ())])
        path = Network([0] * 3, [(0, 1), (1, 2)])
        for scores in ([0, 0, 0], None, [0, None, 0]):
            self.refused(InvalidQuestion, 0, lambda: standing_cover(path, policy, scores))
        pair = Network([0, 0], [(0, 1)])
        self.refuses_scores(policy, lambda value: standing_cover(pair, policy, value))
        self.refused(InvalidScore, 3, lambda: standing_cover(ring([0] * 3), policy, [0] * 4))
        self.without_network(lambda: standing_cover(ring([0] * 3), policy, [0] * 3))
        self.without_network(lambda: standing_cover(pair, Policy(1, []), []))
        cover, sites = standing_cover(network=pair, policy=policy, scores=[2, -50, 3])
        self.assertEqual((sorted(cover.modes), mean(policy, [2, -50, 3], cover)), ([0, 1], (5, 2)))
        lone = standing_cover(Network([0, 3], []), policy, [2, -50, 3])
        self.assertEqual(set(lone[0].modes), {1})
        self.assertEqual(standing_cover(Network([0], []), policy, [2, -50, 3]), (Network([1], []), (0,)))

    def test_joint(self):
        rng = dice(764)
        for at in range(40):
            counts = ((1, 1), (2, 2), (1, 4), (4, 1), (1, 3), (2, 1), (3, 1), (1, 2))[at % 8]
            one, other = [Policy(k, random_policy_views(rng, k, min(9 * k * k - 4, rng.randint(1, 12)) if k > 1 else
                                                        rng.randint(1, 5), 4)) for k in counts]
            k = other.modes
            views = [view for degree in range(5) for view in all_views(one.modes * k, degree)
                     if (view[0] // k, tuple(sorted(x // k for x in view[1]))) in one.views
                     and (view[0] % k, tuple(sorted(x % k for x in view[1]))) in other.views]
            self.assertEqual(joint(one, other), Policy(one.modes * k, views))
        for a, b in ((2, 3), (3, 2), (4, 2), (3, 4), (4, 4), (2, 4), (3, 3)):
            self.refused(InvalidQuestion, 1, lambda: joint(one=Policy(a, []), other=Policy(b, [])))
        self.assertEqual(joint(Policy(4, []), Policy(1, [])), Policy(4, []))

    def test_standings(self):
        """A network obeys the joint policy exactly if its two standings obey the two."""
        rng = dice(765)
        kinds = set()
        for at in range(200):
            modes, links = random_network_parts(rng, 4, rng.randint(1, 4))
            network = Network(modes, links)
            one, other = standings(network, 2)
            self.assertEqual(one, Network([mode // 2 for mode in modes], links))
            self.assertEqual(other, Network([mode % 2 for mode in modes], links))
            first = Policy(2, sorted(set(walked_views(one.modes, links)))[at % 2:])
            second = Policy(2, sorted(set(walked_views(other.modes, links)))[at % 3 // 2:])
            obeys = all(view in joint(first, second).views for view in walked_views(modes, links))
            kinds.add(obeys)
            self.assertEqual(obeys, set(one.site_views()) <= set(first.views) and set(other.site_views()) <= set(second.views))
        self.assertEqual(kinds, {True, False})
        self.assertEqual(standings(network=Network([3, 1], []), many=1), (Network([3, 1], []), Network([0, 0], [])))
        self.assertEqual(standings(Network([3, 1], []), 5), (Network([0, 0], []), Network([3, 1], [])))
        self.assertIs(type(standings(Network([0], []), 2)), tuple)

    def test_odd_values(self):
        one = Network([0], [])
        self.assertIs(shows_apart(one, Network([1], []), Agreeable()), False)
        self.assertEqual(len(list(combinations(range(4), 2))), 6)


if __name__ == "__main__":
    unittest.main()

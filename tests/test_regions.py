"""[56]: regions, spans, connected networks."""

import unittest
from fractions import Fraction

from judges import plain_live
from plain import Case, all_policies, dice, pair, plain_elements, plain_mean, random_network_parts, walked_views

from handalong.errors import InvalidQuestion, Refused
from handalong.networks import Network, breaches, pieces, side_by_side
from handalong.policies import Policy
from handalong.regions import connected, regions, spans
from handalong.views import all_views


def plain_regions(live):
    """Parts that grow together as long as two of their views are linked."""
    parts = [{view} for view in live]
    grown = True
    while grown:
        grown = False
        for one in parts:
            for other in parts:
                if one is not other and any(x[0] in y[1] and y[0] in x[1] for x in one for y in other):
                    parts = [part for part in parts if part is not one and part is not other] + [one | other]
                    grown = True
                    break
            if grown:
                break
    return tuple(sorted(tuple(sorted(part)) for part in parts))


def hang_together(network):
    reached, waiting = {0}, [0]
    while waiting:
        at = waiting.pop()
        for i, j in network.links:
            if at in (i, j) and i + j - at not in reached:
                reached.add(i + j - at)
                waiting.append(i + j - at)
    return len(reached) == len(network.modes)


class Regions(Case):
    def test_random_policies(self):
        sizes = set()
        for policy, _ in all_policies(561, 160):
            told = regions(policy)
            self.all_tuples(told)
            self.assertEqual(told, plain_regions(plain_live(policy)))
            sizes.add(min(len(told), 3))
        self.assertEqual(sizes, {0, 1, 2, 3})

    def test_connected_networks_are_within_a_region(self):
        rng = dice(562)
        for at in range(60):
            modes, links = random_network_parts(rng, at % 4 + 1, rng.randint(1, 12))
            network = Network(modes, links)
            views = network.site_views()
            told = regions(Policy(4, sorted(set(views))))
            for piece in pieces(network):
                self.assertEqual(sum(any(views[site] in region for site in piece) for region in told), 1)

    def test_by_hand(self):
        policy = Policy(3, [(0, (0, 0)), (1, (1, 2)), (2, (1, 1)), (2, (0, 0)), (0, ())])
        self.assertEqual(regions(policy=policy), (((0, ()),), ((0, (0, 0)),), ((1, (1, 2)), (2, (1, 1)))))
        # Mode 0 sees itself, but the two are not linked by that.
        two = Policy(2, [(0, (0, 1)), (0, (1, 1)), (1, (0, 0)), (1, (1, 1))])
        self.assertEqual(regions(two), ((two.views[0], two.views[1], two.views[2]), (two.views[3],)))
        self.assertEqual((regions(Policy(2, [(0, (1,))])), spans(Policy(2, [(0, (1,))]), [3])), ((), ()))


class Spans(Case):
    def test_random_policies(self):
        rng = dice(563)
        sizes = set()
        for at in range(200):
            modes = at % 3 + 1
            pool = [view for degree in (2, 3, 4) for view in all_views(modes, degree)]
            policy = Policy(modes, rng.sample(pool, min(len(pool), rng.randint(1, 9))))
            scores = [rng.randint(-9, 9) for _ in policy.views]
            told = spans(policy, scores)
            self.all_tuples(told)
            sizes.add(min(len(told), 3))
            found = []
            for region in plain_regions(plain_live(policy)):
                means = [plain_mean(policy, scores, lot) for lot in plain_elements(policy) if lot[0][0] in region]
                found.append((pair(min(means)), pair(max(means))))
            self.assertEqual(told, tuple(found))
        self.assertLessEqual({0, 1, 2}, sizes)

    def test_by_hand(self):
        policy = Policy(2, [(0, (0, 0)), (0, (1, 1)), (1, (0, 0)), (1, (0, 0, 0))])
        self.assertEqual(spans(policy=policy, scores=[4, 0, 2, 5]), (((4, 1), (4, 1)), ((1, 1), (2, 1))))

    def test_errors(self):
        policy = Policy(2, [(0, (0, 0)), (1, ()), (1, (1,)), (1, (0, 0))])
        self.refuses_scores(policy, lambda value: spans(policy, value))
        self.refused(Refused, 1, lambda: spans(policy, [1, 2, 3, 4]))
        later = Policy(2, [(0, (1,)), (1, (1, 1)), (1, (1,))])
        # (0, (1,)) is dead and does not count.
        self.refused(Refused, 1, lambda: spans(later, [1, 2, 3]))
        self.assertEqual(spans(Policy(2, [(0, (1,)), (1, (1, 1))]), [1, 2]), (((2, 1), (2, 1)),))
        for none in (Policy(2, [(0, (1,))]), Policy(1, [])):
            self.refuses_scores(none, lambda value: spans(none, value))


class Connected(Case):
    def check(self, network):
        views = network.site_views()
        told = connected(network)
        if len(plain_regions(sorted(set(views)))) > 1:
            self.assertIsNone(told)
            return False
        self.assertIs(type(told), Network)
        self.assertTrue(hang_together(told))
        self.assertEqual(breaches(Policy(4, sorted(set(views))), told), ())
        got = walked_views(told.modes, told.links)
        for view in set(views):
            self.assertEqual(Fraction(got.count(view), len(got)), Fraction(views.count(view), len(views)))
        self.assertEqual(len(got) % len(views), 0)
        return True

    def some_networks(self, rng, modes, most):
        """Networks of several pieces in which each site has two neighbours or more."""
        while True:
            parts = []
            while not parts or sum(len(part.modes) for part in parts) < most and rng.random() < 0.8:
                room = most - sum(len(part.modes) for part in parts)
                if room < 3:
                    break
                told, links = random_network_parts(rng, modes, rng.randint(3, min(8, room)))
                part = Network(told, links)
                if all(len(part.neighbours(at)) >= 2 for at in range(len(told))):
                    parts.append(part)
            yield side_by_side(parts)

    def test_random_networks(self):
        rng = dice(564)
        seen = set()
        for modes in (1, 2, 3, 4):
            source = self.some_networks(rng, modes, 16)
            for _ in range(40):
                network = next(source)
                seen.add((self.check(network), len(pieces(network)) > 1))
        self.assertEqual(seen, {(True, True), (True, False), (False, True)})

    def test_links_without_which_pieces_fall_apart(self):
        """Two pieces whose only links between modes 0 and 1 are such ones."""
        ring = [(0, 1), (1, 2), (0, 2)]
        part = Network([0, 0, 0, 1, 1, 1], ring + [(i + 3, j + 3) for i, j in ring] + [(0, 3)])
        other = Network([0, 0, 2, 1, 1, 2], ring + [(i + 3, j + 3) for i, j in ring] + [(0, 3)])
        for one in (part, other):
            for two in (part, other):
                self.assertTrue(self.check(side_by_side([one, two])))
        # Nothing but these links is of one kind in both pieces, whether the rings are odd or even.
        for many in (3, 4):
            first = [(i, (i + 1) % many) for i in range(many)]
            links = first + [(i + many, j + many) for i, j in first] + [(0, many)]
            one, two = (Network([0] + [mode] * (many - 1) + [1] + [mode] * (many - 1), links) for mode in (2, 3))
            self.assertTrue(self.check(side_by_side([one, two])))
            self.assertTrue(self.check(side_by_side([two, one])))
        self.assertTrue(self.check(Network([0] * 16, [(i, (i + 1) % 4 + i // 4 * 4) if i % 4 < 3 else (i - 3, i) for i in range(16)])))

    def test_by_hand(self):
        ring = Network([0, 0, 0], [(0, 1), (1, 2), (0, 2)])
        self.assertTrue(self.check(ring))
        self.assertTrue(hang_together(connected(network=side_by_side([ring] * 5))))
        apart = side_by_side([ring, Network([1, 1, 1], [(0, 1), (1, 2), (0, 2)])])
        self.assertIsNone(connected(apart))

    def test_errors(self):
        for network in (Network([0], []), Network([0, 0], [(0, 1)]),
                        Network([0, 0, 0, 1], [(0, 1), (1, 2), (0, 2), (2, 3)]),
                        side_by_side([Network([0, 0, 0], [(0, 1), (1, 2), (0, 2)]), Network([1], [])])):
            self.refused(InvalidQuestion, 0, lambda: connected(network))


if __name__ == "__main__":
    unittest.main()

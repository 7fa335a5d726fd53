"""[58], [59]: rules and their beats, next views, escapes, chains."""

import unittest
from itertools import product

from judges import plain_live
from plain import ODD, Agreeable, Case, all_policies, dice, random_network_parts, walked_views

from handalong.errors import InvalidRule, InvalidView, NotObeyed, Refused
from handalong.networks import Network
from handalong.nexts import chain, escape, next_views
from handalong.policies import Policy
from handalong.rules import Rule, beat, beats
from handalong.views import all_views, made_view


def degree_policy(modes, degrees):
    return Policy(modes, [view for degree in degrees for view in all_views(modes, degree)])


def surroundings(live, view):
    """All surroundings of a view, ascending."""
    rows = [[w for w in live if w[0] == mode and view[0] in w[1] and w[0] in view[1]] for mode in view[1]]
    return list(product(*rows))


def plain_next(rule, view, around):
    table = dict(zip(rule.policy.views, rule.told))
    return (table[view], tuple(sorted(table[w] for w in around)))


def plain_nexts(policy, table):
    """All next views for told modes, by all surroundings."""
    live = plain_live(policy)
    found = set()
    for view in live:
        for around in surroundings(live, view):
            found.add((table[view], tuple(sorted(table[w] for w in around))))
    return tuple(sorted(found))


def plain_escape(rule, live):
    """The first view and surrounding whose next view is not allowed, or None."""
    for view in live:
        for around in surroundings(live, view):
            if plain_next(rule, view, around) not in rule.policy.views:
                return (view, around)
    return None


def random_rules(seed, many, most=9):
    """Rules of random policies; some keep their policy."""
    rng = dice(seed)
    for at, (policy, _) in enumerate(all_policies(seed, many)):
        if len(policy.views) <= most:
            yield Rule(policy, [rng.randrange(policy.modes) for _ in policy.views])
            yield Rule(policy, tuple(view[0] for view in policy.views))
    for modes, degrees in ((2, (1,)), (2, (2,)), (2, (0, 1, 2)), (2, (3,)), (3, (1,)), (3, (2,)), (2, (4,))):
        policy = degree_policy(modes, degrees)
        for _ in range(8):
            yield Rule(policy, [rng.randrange(modes) for _ in policy.views])
            yield Rule(policy, [max(view) if rng.random() < 0.3 else 0 for view in ([0, *v[1]] for v in policy.views)])
            yield Rule(policy, [min([v[0], *v[1]]) for v in policy.views])


class Rules(Case):
    def test_attributes(self):
        policy = Policy(2, [(1, (0,)), (0, (1,))])
        rule = Rule(policy=policy, told=[1, 0])
        self.assertEqual((rule.policy, rule.told), (policy, (1, 0)))
        self.assertIs(type(rule.told), tuple)
        self.assertEqual((rule.new_mode((0, (1,))), rule.new_mode(view=(1, (0,)))), (1, 0))
        for value in ODD + [(), 5, (0, (0,)), (0, [1]), [0, (1,)], (False, (1,)), (1, (False,)), (0, ())]:
            self.refused(InvalidView, 0, lambda: rule.new_mode(value))
        told = [0, 1]
        other = Rule(policy, told)
        told[0] = 1
        self.assertEqual(other.told, (0, 1))
        self.assertEqual(Rule(Policy(1, []), []).told, ())

    def test_equality(self):
        policy = Policy(2, [(1, (0,)), (0, (1,))])
        rules = [Rule(policy, [0, 1]), Rule(policy, [1, 0]), Rule(Policy(3, policy.views), [0, 1]), Rule(Policy(1, []), [])]
        for at, one in enumerate(rules):
            for place, other in enumerate(rules):
                self.assertIs(one == other, at == place)
                self.assertIs(one != other, at != place)
            self.assertTrue(one == Rule(one.policy, list(one.told)))
            for value in ODD + [(one.policy, one.told), one.told, one.policy, vars(one), 3, ()]:
                self.assertIs(one == value, False)
                if not isinstance(value, Agreeable):
                    self.assertIs(value == one, False)

    def test_errors(self):
        for policy in (Policy(2, [(0, (1,)), (1, (0,))]), Policy(3, []), Policy(1, [(0, ())])):
            many = len(policy.views)
            for value in ODD + [[0] * (many + 1), (0,) * (many + 2)] + ([[]] if many else []):
                self.refused(InvalidRule, many, lambda: Rule(policy, value))
            for at in range(many + 1):
                for odd in (None, True, -1, policy.modes, 1.0, "0", (0,)):
                    value = [0] * (many + 1)
                    value[at] = odd
                    self.refused(InvalidRule, at, lambda: Rule(policy, value))
                    self.refused(InvalidRule, at, lambda: Rule(policy, tuple(value[:at + 1])))


class Beats(Case):
    def test_random_networks(self):
        rng = dice(581)
        lengths = set()
        for at in range(80):
            modes, links = random_network_parts(rng, at % 3 + 1, rng.randint(1, 10))
            views = walked_views(modes, links)
            policy = Policy(3, sorted(set(views)) + [(0, (2, 2, 2, 2)), (2, (2, 2, 2, 2))][:at % 2])
            rule = Rule(policy, [rng.randrange(3) if rng.random() < 0.2 else view[0] for view in policy.views])
            table = dict(zip(policy.views, rule.told))
            network = Network(modes, links)
            told = beat(rule, network)
            self.assertEqual(told, Network([table[view] for view in views], links))
            self.assertEqual(network, Network(modes, links))
            row = beats(rule, network, 9)
            lengths.add(len(row))
            self.assertIs(type(row), tuple)
            self.assertEqual(row[0], network)
            for one, other in zip(row, row[1:]):
                self.assertEqual(other, beat(rule, one))
            if len(row) < 10:
                self.assertTrue(any(view not in policy.views for view in row[-1].site_views()))
            for many in range(len(row)):
                self.assertEqual(beats(rule, network, many), row[:many + 1])
        self.assertLessEqual({1 + 1, 10}, lengths)

    def test_by_hand(self):
        policy = degree_policy(2, (2,))
        # Each site takes the mode of its neighbours if these agree.
        rule = Rule(policy, [view[1][0] if view[1][0] == view[1][1] else view[0] for view in policy.views])
        ring = Network([0, 1, 0, 1], [(0, 1), (1, 2), (2, 3), (0, 3)])
        told = beats(rule=rule, network=ring, many=64)
        self.assertEqual(len(told), 65)
        self.assertEqual([network.modes for network in told[:3]], [(0, 1, 0, 1), (1, 0, 1, 0), (0, 1, 0, 1)])
        self.assertEqual(beats(rule, ring, 0), (ring,))
        self.assertEqual(beat(rule=rule, network=ring).links, ring.links)
        path = Network([0, 1, 0], [(0, 1), (1, 2)])
        self.assertEqual(beats(rule, path, 5), (path,))
        self.refused(NotObeyed, 0, lambda: beat(rule, path))
        mixed = Network([0, 0, 0, 1], [(0, 1), (1, 2), (0, 2)])
        self.refused(NotObeyed, 3, lambda: beat(rule, mixed))
        still = Rule(policy, [view[0] for view in policy.views])
        self.assertEqual(beats(still, ring, 3), (ring,) * 4)


class Nexts(Case):
    def test_random_rules(self):
        seen = set()
        for rule in random_rules(591, 60):
            table = dict(zip(rule.policy.views, rule.told))
            told = next_views(rule)
            self.all_tuples(told)
            self.assertEqual(told, plain_nexts(rule.policy, table))
            live = plain_live(rule.policy)
            first = plain_escape(rule, live)
            self.assertEqual(escape(rule), first)
            seen.add((first is None, bool(live)))
            if first is not None:
                self.all_tuples(escape(rule))
                self.refused(Refused, 0, lambda: chain(rule))
                continue
            row = [rule.policy]
            while True:
                behind = plain_nexts(row[-1], {view: table[view] for view in row[-1].views})
                if behind == row[-1].views:
                    break
                row.append(Policy(rule.policy.modes, behind))
            self.assertEqual(chain(rule), tuple(row))
            self.assertIs(type(chain(rule)), tuple)
            seen.add(min(len(row), 3))
        self.assertLessEqual({(True, True), (False, True), (True, False), 1, 2, 3}, seen)

    def test_first_escapes(self):
        """Where a next view is not allowed for some of the modes told around alone."""
        rng = dice(594)
        unlike = 0
        for at in range(240):
            modes = at % 2 + 2
            pool = [view for degree in ((2, 3), (1, 2))[at % 2] for view in all_views(modes, degree)]
            policy = Policy(modes, rng.sample(pool, len(pool) - rng.randint(1, 3)))
            rule = Rule(policy, [rng.randrange(modes) for _ in policy.views])
            live = plain_live(policy)
            first = plain_escape(rule, live)
            self.assertEqual(escape(rule), first)
            if first is not None:
                unlike += first[1] != surroundings(live, first[0])[0]
        self.assertGreater(unlike, 25)

    def test_networks_behind_beats(self):
        """Behind k beats a network obeys entry k of the chain, or the last one."""
        rng = dice(592)
        policy = degree_policy(3, (0, 1, 2, 3, 4))
        for _ in range(6):
            rule = Rule(policy, [rng.choice((0, view[0], max([view[0], *view[1]]))) for view in policy.views])
            row = chain(rule)
            for _ in range(10):
                modes, links = random_network_parts(rng, 3, rng.randint(1, 16))
                for k, network in enumerate(beats(rule, Network(modes, links), 8)):
                    for view in network.site_views():
                        self.assertIn(view, row[min(k, len(row) - 1)].views)

    def test_by_hand(self):
        policy = Policy(2, [(0, (1,)), (1, (0,)), (0, ()), (1, ())])
        swap = Rule(policy, [1 - view[0] for view in policy.views])
        self.assertEqual(next_views(rule=swap), policy.views)
        self.assertIsNone(escape(rule=swap))
        self.assertEqual(chain(rule=swap), (policy,))
        fall = Rule(policy, [0 if len(view[1]) == 0 else view[0] for view in policy.views])
        self.assertEqual(chain(fall), (policy, Policy(2, [(0, (1,)), (1, (0,)), (0, ())])))
        flat = Rule(policy, [0, 0, 0, 0])
        self.assertEqual(escape(flat), ((0, (1,)), ((1, (0,)),)))
        self.refused(Refused, 0, lambda: chain(flat))
        none = Policy(2, [(0, (1,))])
        lost = Rule(none, [1])
        self.assertEqual((next_views(lost), escape(lost), chain(lost)), ((), None, (none, Policy(2, []))))
        self.assertEqual(chain(Rule(Policy(2, []), [])), (Policy(2, []),))
        lone = Rule(Policy(2, [(0, ())]), [1])
        self.assertEqual((next_views(lone), escape(lone)), (((1, ()),), ((0, ()), ())))
        # The first surrounding that leads out is the third: its second neighbour is told 1.
        wide = Policy(2, [(0, (0, 0)), (0, (0, 1)), (1, (0, 0))])
        told = Rule(wide, [0, 1, 1])
        self.assertEqual(escape(told)[0], (0, (0, 0)))
        self.assertEqual(escape(told)[1], ((0, (0, 1)), (0, (0, 1))))

    def test_surroundings_are_in_networks(self):
        """Each next view of live views is behind a beat of some network, so all of them are live in the next policy."""
        for rule in random_rules(593, 20):
            if escape(rule) is None:
                for one, other in zip(chain(rule), chain(rule)[1:]):
                    self.assertEqual(plain_live(other), other.views)
                    self.assertLessEqual(set(other.views), set(one.views))

    def test_made_views(self):
        self.assertEqual(made_view(0, (1, 0)), (0, (0, 1)))


if __name__ == "__main__":
    unittest.main()

"""[63]: link sums before and after a beat, shares, exchanges, collections."""

import unittest
from fractions import Fraction
from itertools import product

from judges import balanced_within, plain_live
from plain import (ODD, Agreeable, Case, dice, fraction, plain_elements, random_network_parts, random_policy_views,
                   strict_fraction, told, variations, walked_views)
from test_rules import degree_policy, random_rules

from handalong.building import compact
from handalong.collected import copies
from handalong.errors import InvalidScore
from handalong.linked import is_link_evidence, link_evidence
from handalong.moved import keeping_rules
from handalong.networks import Network
from handalong.policies import Policy
from handalong.rules import Rule, beat
from handalong.views import all_views


def weight_table(modes, weights):
    pairs = [(a, b) for a in range(modes) for b in range(a, modes)]
    return {pair: w for (a, b), w in zip(pairs, weights) for pair in ((a, b), (b, a))}


def can_link(x, y):
    return x[0] in y[1] and y[0] in x[1]


def plain_gain(rule, table, x, y):
    told = dict(zip(rule.policy.views, rule.told))
    return table[told[x], told[y]] - table[x[0], y[0]]


def fits_exchange(rule, table, x, u, y, v):
    if x[0] != u[0] or y[0] != v[0] or not can_link(x, y) or not can_link(u, v):
        return False
    straight = plain_gain(rule, table, x, y) + plain_gain(rule, table, u, v)
    return straight != plain_gain(rule, table, x, v) + plain_gain(rule, table, u, y)


def plain_exchange(rule, table, live):
    for x in live:
        for u in [view for view in live if view[0] == x[0]]:
            for y in [view for view in live if can_link(x, view)]:
                for v in [view for view in live if view[0] == y[0] and can_link(u, view)]:
                    if fits_exchange(rule, table, x, u, y, v):
                        return (x, u, y, v)
    return None


def collection_gain(rule, table, lot):
    """What some network of a multiple of a collection gains, for one of the collection."""
    network = compact(lot)
    behind = beat(rule, network)
    gained = sum(table[behind.modes[i], behind.modes[j]] - table[network.modes[i], network.modes[j]] for i, j in network.links)
    return Fraction(gained * sum(count for _, count in lot), len(network.modes))


def judge_shares(rule, table, live, value):
    if type(value) is not tuple or len(value) != len(live):
        return False
    shares = {}
    for view, row in zip(live, value):
        if type(row) is not tuple or len(row) != len(view[1]) or not all(strict_fraction(x) for x in row):
            return False
        if sum((fraction(x) for x in row), Fraction(0)) != 0:
            return False
        for mode, x in zip(view[1], row):
            if shares.setdefault((view, mode), fraction(x)) != fraction(x):
                return False
    return all(plain_gain(rule, table, x, y) == shares[x, y[0]] + shares[y, x[0]]
               for x in live for y in live if can_link(x, y))


def judge_link(rule, table, live, value):
    if told(value, "shares", 2):
        return judge_shares(rule, table, live, value[1])
    if told(value, "exchange", 5):
        if any(type(view) is not tuple or not balanced_view(rule, view) or view not in live for view in value[1:]):
            return False
        return fits_exchange(rule, table, *value[1:])
    if not told(value, "network", 2) or not balanced_within(rule.policy, value[1]):
        return False
    return plain_exchange(rule, table, live) is None and collection_gain(rule, table, value[1]) != 0


def balanced_view(rule, view):
    """Whether a tuple is an allowed view, with modes that are no truth values."""
    return len(view) == 2 and type(view[0]) is int and type(view[1]) is tuple and all(type(x) is int for x in view[1])


def weighed_links(seed, many):
    rng = dice(seed)
    for rule in random_rules(seed, many):
        size = rule.policy.modes * (rule.policy.modes + 1) // 2
        for most in (1, 4):
            yield rule, [rng.randint(-most, most) for _ in range(size)]
        # What a link is worth by its two ends alone, so that there are no exchanges.
        ends = [rng.randint(-3, 3) for _ in range(rule.policy.modes)]
        yield rule, [ends[a] + ends[b] for a in range(len(ends)) for b in range(a, len(ends))]


def turned_rules(seed, many):
    """Rules that exchange modes, or that keep some weight, in small policies; many keep link sums in other ways than by gains of 0."""
    rng = dice(seed)
    hand = [[(0, (0, 1)), (1, (0, 1))], [(0, (0, 1, 1)), (1, (0, 0, 1))], [(0, (0, 1)), (1, (0, 2)), (2, (1, 2))],
            [(0, (0, 1, 1)), (1, (0, 0, 2)), (2, (1, 2, 2))], [(0, (1, 1)), (1, (0, 2)), (2, (1, 1))],
            [(0, (0, 0, 1)), (1, (0, 1, 1)), (1, (1, 1, 1))]]
    for at in range(many):
        modes = at % 2 + 2
        if at % 3 == 0:
            views = hand[rng.randrange(len(hand))]
            modes = 1 + max(mode for mode, _ in views)
        else:
            views = random_policy_views(rng, modes, rng.randint(2, 5), most=3)
        policy = Policy(modes, views)
        turn = rng.sample(range(modes), modes)
        told_modes = [turn[view[0]] for view in policy.views]
        if at % 4 == 3:
            told_modes = rng.choice(keeping_rules(policy, [rng.randint(0, 1) for _ in range(modes)]))
        yield rng, Rule(policy, told_modes), [rng.randint(-3, 3) for _ in range(modes * (modes + 1) // 2)]


class Links(Case):
    def test_turned_modes(self):
        rich = set()
        many = 0
        for at, (rng, rule, weights) in enumerate(turned_rules(634, 450)):
            live = plain_live(rule.policy)
            table = weight_table(rule.policy.modes, weights)
            answer = link_evidence(rule, weights)
            self.assertTrue(judge_link(rule, table, live, answer), (rule.policy.views, rule.told, weights, answer))
            self.assertIs(is_link_evidence(rule, weights, answer), True)
            if answer[0] == "shares" and any(share != (0, 1) for row in answer[1] for share in row):
                many += 1
                rich.add(rule.policy.views)
                if many % 8 == 0:
                    for value in variations(answer):
                        self.assertIs(is_link_evidence(rule, weights, value), judge_link(rule, table, live, value), value)
        self.assertGreater(many, 25)
        self.assertGreater(len(rich), 3)

    def test_weights_of_ends(self):
        """If a rule keeps a weight and all sites have d links, it keeps what the ends of links weigh, d times the weight."""
        rng = dice(635)
        unlike = 0
        for at in range(500):
            degree = at % 2 + 2
            pool = all_views(3, degree)
            policy = Policy(3, rng.sample(pool, rng.randint(3, 6)))
            ends = [rng.randint(-2, 2) for _ in range(3)]
            rule = Rule(policy, rng.choice(keeping_rules(policy, ends)))
            weights = [ends[a] + ends[b] for a in range(3) for b in range(a, 3)]
            answer = link_evidence(rule, weights)
            self.assertEqual(answer[0], "shares")
            live = plain_live(policy)
            self.assertTrue(judge_link(rule, weight_table(3, weights), live, answer), (policy.views, rule.told, weights, answer))
            told_apart = {(view[0], ends[rule.new_mode(view)]) for view in live}
            unlike += len(told_apart) > len({view[0] for view in live})
        self.assertGreater(unlike, 10)

    def test_other_shares(self):
        """Shares that add up but do not cancel at a view, or are unlike for one mode, are no evidence."""
        policy = Policy(2, [(0, (1, 1)), (1, (0, 0))])
        still = Rule(policy, [0, 1])
        zero, one, less_one = (0, 1), (1, 1), (-1, 1)
        self.assertIs(is_link_evidence(still, [1, 2, 3], ("shares", ((zero, zero), (zero, zero)))), True)
        self.assertIs(is_link_evidence(still, [1, 2, 3], ("shares", ((one, one), (less_one, less_one)))), False)
        self.assertIs(is_link_evidence(still, [1, 2, 3], ("shares", ((one, less_one), (less_one, one)))), False)
        twist = Rule(Policy(2, [(0, (0, 1)), (1, (0, 1))]), [1, 0])
        half, less_half = (3, 2), (-3, 2)
        answer = ("shares", ((half, less_half), (half, less_half)))
        self.assertEqual(link_evidence(twist, [0, 5, 3]), answer)
        self.assertIs(is_link_evidence(twist, [0, 5, 3], answer), True)
        self.assertIs(is_link_evidence(twist, [0, 5, 4], answer), False)

    def test_other_exchanges(self):
        """Dead views, and values that are no views, are no evidence, whatever they would gain."""
        views = [(0, (0, 0)), (0, (0, 1)), (1, (0, 1)), (1, (1, 1)), (0, (0, 0, 2)), (1, (0, 2)), (2, (2,))]
        policy = Policy(3, views[:6])
        live = plain_live(policy)
        self.assertEqual(len(live), 4)
        rule = Rule(policy, [1 if len(view[1]) == 3 else 0 if view == (0, (0, 0)) else 1 for view in policy.views])
        table = weight_table(3, [0, 2, 5, 1, 1, 1])
        answer = link_evidence(rule, [0, 2, 5, 1, 1, 1])
        self.assertEqual(answer, ("exchange",) + plain_exchange(rule, table, live))
        kinds = set()
        for four in product(policy.views, repeat=4):
            value = ("exchange",) + four
            right = judge_link(rule, table, live, value)
            kinds.add((right, fits_exchange(rule, table, *four)))
            self.assertIs(is_link_evidence(rule, [0, 2, 5, 1, 1, 1], value), right)
        self.assertEqual(kinds, {(True, True), (False, True), (False, False)})
        for odd in ODD + [5, (), (0,), [0, (0, 0)], (0, [0, 0]), (False, (0, 0)), (9, (9,))]:
            for at in range(1, 5):
                value = answer[:at] + (odd,) + answer[at + 1:]
                self.assertIs(is_link_evidence(rule, [0, 2, 5, 1, 1, 1], value), False)

    def test_random_rules(self):
        words = set()
        rng = dice(632)
        for at, (rule, weights) in enumerate(weighed_links(631, 50)):
            live = plain_live(rule.policy)
            table = weight_table(rule.policy.modes, weights)
            answer = link_evidence(rule, weights)
            words.add((answer[0], bool(live), rule.policy.modes))
            self.all_tuples(answer)
            self.assertTrue(judge_link(rule, table, live, answer), (rule.policy.views, rule.told, weights, answer))
            self.assertIs(is_link_evidence(rule, weights, answer), True)
            first = plain_exchange(rule, table, live)
            if first is not None:
                self.assertEqual(answer, ("exchange",) + first)
            for lot in plain_elements(rule.policy)[:3]:
                value = ("network", lot)
                self.assertIs(is_link_evidence(rule, weights, value), judge_link(rule, table, live, value))
            for _ in range(6 if live else 0):
                value = ("exchange",) + tuple(rng.choice(live) for _ in range(4))
                self.assertIs(is_link_evidence(rule, weights, value), judge_link(rule, table, live, value))
            if at % 10 == 0 and len(live) < 5:
                for value in variations(answer):
                    self.assertIs(is_link_evidence(rule, weights, value), judge_link(rule, table, live, value), value)
            for value in ODD if at % 16 == 0 else ():
                self.assertIs(is_link_evidence(rule, weights, value), False)
        for word in ("shares", "exchange", "network"):
            self.assertLessEqual({(word, True, 2), (word, True, 3)}, words)
        self.assertIn(("shares", False, 3), words)

    def test_link_sums(self):
        """Of random networks before and after a beat."""
        rng = dice(633)
        done = set()
        for at in range(200):
            modes, links = random_network_parts(rng, at % 2 + 1, rng.randint(2, 7))
            network = Network(modes, links)
            policy = Policy(2, sorted(set(walked_views(modes, links))))
            rule = Rule(policy, [rng.choice((view[0], rng.randrange(2))) for view in policy.views])
            weights = [rng.randint(-1, 1) for _ in range(3)]
            table = weight_table(2, weights)
            behind = beat(rule, network)
            gained = sum(table[behind.modes[i], behind.modes[j]] - table[modes[i], modes[j]] for i, j in links)
            answer = link_evidence(rule, weights)
            done.add((answer[0], gained == 0, rule.told == tuple(view[0] for view in policy.views)))
            if answer[0] == "shares":
                self.assertEqual(gained, 0)
            if answer[0] == "exchange":
                # Both ways to link the four views are in networks with one collection; they differ in what they gain.
                self.assertTrue(fits_exchange(rule, table, *answer[1:]))
        self.assertLessEqual({("shares", True, True), ("shares", True, False), ("exchange", False, False),
                              ("network", False, False)}, done)

    def test_moved_weights_are_link_sums(self):
        """What the neighbours' modes weigh is a link sum; a rule that keeps the weight where all have d links keeps it."""
        for degree in (1, 2):
            policy = degree_policy(2, (degree,))
            for row in keeping_rules(policy, [0, 1]):
                answer = link_evidence(Rule(policy, row), [0, 1, 2])
                self.assertEqual(answer[0], "shares")

    def test_by_hand(self):
        policy = Policy(2, [(0, (1,)), (1, (0,))])
        swap = Rule(policy, [1, 0])
        self.assertEqual(link_evidence(rule=swap, link_weights=[4, 5, 6]), ("shares", (((0, 1),), ((0, 1),))))
        flat = Rule(policy, [0, 0])
        self.assertEqual(link_evidence(flat, [4, 5, 6])[0], "network")
        self.assertIs(is_link_evidence(rule=flat, link_weights=[4, 5, 6], value=("network", (((0, (1,)), 7), ((1, (0,)), 7)))), True)
        self.assertIs(is_link_evidence(flat, [4, 5, 6], ("network", (((0, (1,)), 7), ((1, (0,)), 6)))), False)
        self.assertIs(is_link_evidence(flat, [4, 4, 6], ("network", (((0, (1,)), 7), ((1, (0,)), 7)))), False)
        # Shares may be others than the told ones where a view has neighbours in two modes.
        wide = Policy(2, [(0, (0, 1)), (1, (0, 1))])
        still = Rule(wide, [0, 1])
        zero, half = (0, 1), (1, 2)
        self.assertEqual(link_evidence(still, [1, 1, 1]), ("shares", ((zero, zero), (zero, zero))))
        self.assertIs(is_link_evidence(still, [1, 1, 1], ("shares", ((half, (-1, 2)), (half, (-1, 2))))), False)
        for policy in (Policy(2, []), Policy(2, [(0, (1,))])):
            rule = Rule(policy, [0 for _ in policy.views])
            self.assertEqual(link_evidence(rule, [1, 2, 3]), ("shares", ()))
            self.assertIs(is_link_evidence(rule, [1, 2, 3], ("shares", ())), True)
            self.assertIs(is_link_evidence(rule, [1, 2, 3], ("shares", ((),))), False)
        # Live views without a neighbour: none can be linked.
        lone = Rule(Policy(2, [(0, ()), (1, ())]), [1, 1])
        self.assertEqual(link_evidence(lone, [1, 2, 3]), ("shares", ((), ())))
        self.assertIs(is_link_evidence(lone, [1, 2, 3], ("network", (((0, ()), 1),))), False)

    def test_multiples(self):
        rule = Rule(degree_policy(2, (2,)), [0] * 6)
        answer = link_evidence(rule, [0, 1, 0])
        self.assertEqual(answer[0], "network")
        self.assertIs(is_link_evidence(rule, [0, 1, 0], ("network", copies(answer[1], 1000))), True)
        self.assertIs(is_link_evidence(rule, [0, 1, 0], Agreeable()), False)


class Errors(Case):
    def test_weights(self):
        for policy in (degree_policy(2, (2,)), Policy(3, [(0, (1,))]), Policy(1, [])):
            rule = Rule(policy, [0 for _ in policy.views])
            many = policy.modes * (policy.modes + 1) // 2
            self.refuses_weights(many, lambda value: link_evidence(rule, value))
            self.refuses_weights(many, lambda value: is_link_evidence(rule, value, None))
            weights = [0] * many
            link_evidence(rule, weights)
            self.assertEqual(weights, [0] * many)
        self.refused(InvalidScore, 3, lambda: link_evidence(Rule(Policy(2, []), []), [0, 0, 0, 0]))


if __name__ == "__main__":
    unittest.main()

"""[60] to [62]: gains, what moves along links, falls and bounds, steps, kept and lasting weights, keeping rules."""

import unittest
from fractions import Fraction
from itertools import product

from judges import judge_nought, plain_live
from judges_more import judge_ratio
from plain import (ODD, Agreeable, Case, all_policies, dice, fraction, judge_mean, plain_elements, plain_sends, plain_total,
                   random_network_parts, site_count, variations, walked_views)
from smallnets import small_collections
from test_rules import degree_policy, random_rules

from handalong.errors import InvalidTransfer, NotObeyed, Refused
from handalong.means import greatest_mean
from handalong.moved import (fall, gain_step, gains, greatest_gain, is_moved_evidence, kept_weights, keeping_rules,
                             lasting_weights, moved_evidence, moves, rest_bound)
from handalong.networks import Network
from handalong.nexts import chain, escape
from handalong.policies import Policy
from handalong.rules import Rule, beat, beats
from handalong.shares import worst_ratio
from handalong.steps import sum_step
from handalong.views import all_views


def plain_gains(rule, weights):
    return tuple(weights[told] - weights[view[0]] for view, told in zip(rule.policy.views, rule.told))


def judge_moved(rule, weights, live, value):
    """Whether any value is right evidence of [60]."""
    if type(value) is not tuple or len(value) != 2 or type(value[0]) is not str:
        return False
    word = {"moved": "nought", "network": "network"}.get(value[0])
    return judge_nought(rule.policy, plain_gains(rule, weights), live, (word,) + value[1:])


def weighed_rules(seed, many):
    """Rules and weights; among them rules that keep the weight."""
    rng = dice(seed)
    for rule in random_rules(seed, many):
        weights = [rng.randint(-5, 5) for _ in range(rule.policy.modes)]
        yield rule, weights
        if rule.policy.modes ** len(rule.policy.views) <= 1000:
            told = keeping_rules(rule.policy, weights)
            yield Rule(rule.policy, told[-1]), weights
            yield Rule(rule.policy, rng.choice(told)), tuple(weights)


def weight_of(weights, network):
    return sum(weights[mode] for mode in network.modes)


class Refusals(Case):
    def test_weights(self):
        one = Network([0], [])
        for policy in (degree_policy(2, (2,)), Policy(3, [(0, (1,))]), Policy(1, [])):
            rule = Rule(policy, [0 for _ in policy.views])
            for work in (gains, moved_evidence, greatest_gain, fall, rest_bound, gain_step):
                self.refuses_weights(policy.modes, lambda value: work(rule, value))
            self.refuses_weights(policy.modes, lambda value: is_moved_evidence(rule, value, None))
            self.refuses_weights(policy.modes, lambda value: moves(rule, value, None, one))
            self.refuses_weights(policy.modes, lambda value: keeping_rules(policy, value))

    def test_without_network(self):
        rule = Rule(Policy(2, [(0, (1,)), (0, (1, 1))]), [1, 0])
        self.without_network(lambda: fall(rule, [0, 1]))
        self.without_network(lambda: rest_bound(rule, [0, 1]))
        self.assertEqual(gains(rule, [3, 5]), (2, 0))
        self.assertEqual(moved_evidence(rule, [0, 1])[0], "moved")
        self.assertEqual(greatest_gain(rule, [0, 1])[0], "none")
        self.assertEqual(gain_step(rule, [0, 1]), 0)
        self.assertEqual(kept_weights(rule), (((1, 1), (0, 1)), ((0, 1), (1, 1))))
        self.assertEqual(lasting_weights(rule), kept_weights(rule))
        self.assertEqual(keeping_rules(rule.policy, [0, 1]), ((0, 0),))
        empty = Rule(Policy(2, []), [])
        self.assertEqual((gains(empty, [1, 2]), keeping_rules(empty.policy, [1, 2])), ((), ((),)))

    def test_transfers(self):
        policy = degree_policy(3, (1,))
        rule = Rule(policy, [view[0] for view in policy.views])
        pair_of = Network([0, 0], [(0, 1)])
        for value in ODD + [(), [(0, 1)] * 2, ((0, 1),) * 4]:
            self.refused(InvalidTransfer, 3, lambda: moves(rule, [0, 0, 0], value, pair_of))
        for at in range(3):
            for odd in (None, (2, 2), (1, 0), [0, 1], 0, (True, 1)):
                value = [(0, 1)] * 3
                value[at] = odd
                self.refused(InvalidTransfer, at, lambda: moves(rule, [0, 0, 0], value, pair_of))
                self.refused(InvalidTransfer, at, lambda: moves(rule, [0, 0, 0], value, Network([3], [])))
        wrong = Network([0, 0, 1, 2], [(0, 1)])
        self.refused(NotObeyed, 2, lambda: moves(rule, [0, 0, 0], [(0, 1), (1, 1), (0, 1)], wrong))
        told = Network([0, 0, 1, 2, 0, 2], [(0, 1), (2, 3), (4, 5)])
        self.refused(Refused, 4, lambda: moves(rule, [0, 0, 0], [(0, 1), (1, 1), (0, 1)], told))
        self.refused(Refused, 2, lambda: moves(rule, [0, 0, 0], [(0, 1), (1, 1), (1, 1)], told))
        self.assertEqual(moves(rule, [5, 0, 0], [(1, 1), (1, 2), (0, 1)], Network([1, 2], [(0, 1)])), ((0, 1, (0, 1)),))


class Moved(Case):
    def test_random_rules(self):
        words = set()
        for at, (rule, weights) in enumerate(weighed_rules(601, 40)):
            live = plain_live(rule.policy)
            told = plain_gains(rule, weights)
            self.assertEqual(gains(rule, weights), told)
            answer = moved_evidence(rule, weights)
            words.add((answer[0], bool(live), any(told)))
            self.all_tuples(answer)
            self.assertTrue(judge_moved(rule, weights, live, answer), (rule.policy.views, rule.told, answer))
            self.assertIs(is_moved_evidence(rule, weights, answer), True)
            for lot in plain_elements(rule.policy)[:6]:
                value = ("network", lot)
                self.assertIs(is_moved_evidence(rule, weights, value), judge_moved(rule, weights, live, value))
            self.assertIs(is_moved_evidence(rule, weights, ("nought", answer[1])), False)
            if at % 9 == 0 and len(live) < 7:
                for value in variations(answer):
                    self.assertIs(is_moved_evidence(rule, weights, value), judge_moved(rule, weights, live, value), value)
            for value in ODD:
                self.assertIs(is_moved_evidence(rule, weights, value), False)
        self.assertLessEqual({("moved", True, True), ("moved", True, False), ("network", True, True)}, words)

    def test_small_networks(self):
        """The weight is kept exactly if it is kept in small networks."""
        rng = dice(602)
        kinds = set()
        for policy in (degree_policy(2, (1,)), degree_policy(2, (0, 1)), Policy(2, [(0, (0, 1)), (1, (0, 1)), (1, (1, 1))]),
                       Policy(3, [(0, (1,)), (1, (0, 2)), (2, (1,)), (2, ())])):
            lots = [lot for rows in small_collections(policy, 5).values() for lot in rows]
            for _ in range(20):
                rule = Rule(policy, [rng.choice((view[0], rng.randrange(policy.modes))) for view in policy.views])
                weights = [rng.randint(-2, 2) for _ in range(policy.modes)]
                told = plain_gains(rule, weights)
                kept = all(plain_total(policy, told, lot) == 0 for lot in lots)
                kinds.add(kept)
                self.assertEqual(moved_evidence(rule, weights)[0] == "moved", kept)
                step = gain_step(rule, weights)
                self.assertEqual(step, sum_step(policy, told))
                if step:
                    self.assertTrue(all(plain_total(policy, told, lot) % step == 0 for lot in lots))
                else:
                    self.assertTrue(kept)
        self.assertEqual(kinds, {True, False})

    def test_moves(self):
        """What each site gets along its links is its gain; the beat changes the weight by all gains."""
        rng = dice(603)
        done = set()
        for at in range(150):
            modes, links = random_network_parts(rng, at % 3 + 1, rng.randint(2, 9))
            network = Network(modes, links)
            policy = Policy(3, sorted(set(walked_views(modes, links))))
            weights = [rng.randint(-3, 3) for _ in range(3)]
            told = rng.choice(keeping_rules(policy, weights) if 3 ** len(policy.views) <= 1000 else [[v[0] for v in policy.views]])
            rule = Rule(policy, told)
            transfer = moved_evidence(rule, weights)[1]
            self.assertEqual(weight_of(weights, network), weight_of(weights, beat(rule, network)))
            rows = moves(rule, weights, list(transfer) if at % 2 else transfer, network)
            self.all_tuples(rows)
            self.assertEqual([row[:2] for row in rows], list(network.links))
            got = [Fraction(0)] * len(modes)
            for i, j, amount in rows:
                self.assertEqual(fraction(amount), plain_sends(3, transfer, (modes[i], (modes[j],))))
                got[i] += fraction(amount)
                got[j] -= fraction(amount)
            self.assertEqual(got, [weights[new] - weights[old] for new, old in zip(beat(rule, network).modes, modes)])
            done.add(any(got))
        self.assertEqual(done, {True, False})

    def test_by_hand(self):
        policy = Policy(2, [(0, (1,)), (1, (0,))])
        swap = Rule(policy, [1, 0])
        self.assertEqual(gains(rule=swap, weights=[2, 5]), (3, -3))
        self.assertEqual(moved_evidence(rule=swap, weights=[2, 5]), ("moved", ((3, 1),)))
        self.assertEqual(moves(rule=swap, weights=[2, 5], transfer=[(3, 1)], network=Network([1, 0], [(0, 1)])), ((0, 1, (-3, 1)),))
        self.assertIs(is_moved_evidence(rule=swap, weights=[2, 5], value=("moved", ((3, 1),))), True)
        self.assertIs(is_moved_evidence(swap, [2, 5], ("moved", ((6, 2),))), False)
        self.assertIs(is_moved_evidence(swap, [2, 5], ("network", (((0, (1,)), 1), ((1, (0,)), 1)))), False)
        lone = Rule(Policy(2, [(0, ()), (1, ())]), [1, 1])
        self.assertEqual(moved_evidence(lone, [0, 2])[0], "network")
        self.assertIs(is_moved_evidence(lone, [0, 2], ("network", (((0, ()), 3), ((1, ()), 1)))), True)
        self.assertEqual(moves(lone, [2, 2], [(7, 3)], Network([0, 1], [])), ())


class Falls(Case):
    def test_random_rules(self):
        kinds = set()
        for rule, weights in weighed_rules(611, 40):
            policy = rule.policy
            lots = plain_elements(policy)
            told = plain_gains(rule, weights)
            answer = greatest_gain(rule, weights)
            self.assertEqual(answer, greatest_mean(policy, told))
            self.assertTrue(judge_mean(policy, told, answer, -1))
            if not lots:
                self.without_network(lambda: fall(rule, weights))
                self.without_network(lambda: rest_bound(rule, weights))
                continue
            changed = [int(mode != view[0]) for mode, view in zip(rule.told, policy.views)]
            losses = [-x for x in told]
            answer = fall(rule, weights)
            self.assertEqual(answer, worst_ratio(policy, losses, changed))
            self.assertTrue(judge_ratio(policy, losses, changed, answer))
            ratios = [Fraction(plain_total(policy, losses, lot), plain_total(policy, changed, lot))
                      for lot in lots if plain_total(policy, changed, lot)]
            bound = rest_bound(rule, weights)
            live = [weights[mode] for mode in {view[0] for view in plain_live(policy)}]
            if escape(rule) is not None:
                self.assertIsNone(bound)
                kinds.add("escape")
            elif not ratios:
                self.assertEqual(bound, (0, 1))
                kinds.add("still")
            elif min(ratios) <= 0:
                self.assertIsNone(bound)
                kinds.add("rises")
            else:
                self.assertEqual(fraction(bound), (max(live) - min(live)) / min(ratios))
                self.all_tuples(bound)
                kinds.add("falls")
        self.assertEqual(kinds, {"escape", "still", "rises", "falls"})

    def test_changes_are_bounded(self):
        """Counted over the beats of random networks."""
        rng = dice(612)
        met = Fraction(0)
        policy = degree_policy(2, (0, 1, 2, 3))
        rules = [(Rule(policy, [0 if 0 in view[1] else view[0] for view in policy.views]), [0, 1]),
                 (Rule(policy, [view[0] if len(view[1]) < 3 else 0 for view in policy.views]), [0, 3]),
                 (Rule(policy, [1 for _ in policy.views]), [5, 4])]
        for rule, weights in rules:
            bound = fraction(rest_bound(rule, weights))
            for _ in range(25):
                modes, links = random_network_parts(rng, 2, rng.randint(1, 14), tries=18)
                while max(len(view[1]) for view in walked_views(modes, links)) > 3:
                    modes, links = random_network_parts(rng, 2, rng.randint(1, 14), tries=18)
                row = beats(rule, Network(modes, links), 64)
                many = sum(x != y for one, other in zip(row, row[1:]) for x, y in zip(one.modes, other.modes))
                self.assertLessEqual(many, bound * len(modes))
                met = max(met, Fraction(many, len(modes)) / bound)
        self.assertEqual(met, 1)

    def test_by_hand(self):
        policy = degree_policy(2, (2,))
        still = Rule(policy, [view[0] for view in policy.views])
        self.assertEqual(fall(rule=still, weights=[0, 1])[0], "every")
        self.assertEqual(rest_bound(rule=still, weights=[0, 1]), (0, 1))
        down = Rule(policy, [0 for _ in policy.views])
        self.assertEqual(fall(down, [0, 3])[:2], ("ratio", (3, 1)))
        self.assertEqual((rest_bound(down, [0, 3]), rest_bound(down, [3, 0]), rest_bound(down, [3, 3])), ((1, 1), None, None))
        self.assertEqual(greatest_gain(rule=down, weights=[0, 3])[1], (0, 1))
        self.assertEqual((gain_step(rule=down, weights=[0, 3]), gain_step(still, [0, 3])), (3, 0))
        # The views of mode 1 are dead, so its weight does not count.
        lone = Rule(Policy(3, [(0, ()), (1, (0,)), (2, ())]), [0, 0, 0])
        self.assertEqual(rest_bound(lone, [0, 99, 4]), (1, 1))
        self.assertEqual(rest_bound(lone, [0, -99, 4]), (1, 1))


class Kept(Case):
    def sums(self, rule):
        """For each least collection how much a beat changes the number of sites in each mode."""
        found = []
        for lot in plain_elements(rule.policy):
            told = [(rule.new_mode(view), view[0], count) for view, count in lot]
            found.append([sum(k * ((new == m) - (old == m)) for new, old, k in told) for m in range(rule.policy.modes)])
        return found

    def test_random_rules(self):
        sizes = set()
        for rule in random_rules(621, 60):
            rows = kept_weights(rule)
            self.checks_basis(rows, rule.policy.modes, self.sums(rule))
            sizes.add((rule.policy.modes, len(rows)))
            if escape(rule) is None:
                last = chain(rule)[-1]
                table = dict(zip(rule.policy.views, rule.told))
                lasting = lasting_weights(rule)
                self.checks_basis(lasting, last.modes, self.sums(Rule(last, [table[view] for view in last.views])))
                self.assertGreaterEqual(len(lasting), len(rows))
                sizes.add(len(lasting) > len(rows))
            else:
                self.refused(Refused, 0, lambda: lasting_weights(rule))
        self.assertLessEqual({(2, 1), (2, 2), (3, 1), (3, 2), (3, 3), (4, 2), True, False}, sizes)

    def test_by_hand(self):
        policy = degree_policy(2, (2,))
        down = Rule(policy, [0 for _ in policy.views])
        self.assertEqual(kept_weights(rule=down), (((1, 1), (1, 1)),))
        self.assertEqual(lasting_weights(rule=down), (((1, 1), (0, 1)), ((0, 1), (1, 1))))
        path = Policy(3, [(0, (1,)), (1, (0, 0)), (2, ())])
        turn = Rule(path, [0, 2, 0])
        self.assertEqual(escape(turn)[0], (0, (1,)))
        self.assertEqual(kept_weights(turn), (((1, 1), (1, 1), (1, 1)),))

    def test_keeping_rules(self):
        rng = dice(622)
        many = set()
        done = 0
        for policy, _ in all_policies(622, 150):
            live = plain_live(policy)
            if policy.modes ** len(live) > 300:
                continue
            done += 1
            weights = [rng.randint(-2, 2) for _ in range(policy.modes)]
            lots = plain_elements(policy)
            found = []
            for modes in product(range(policy.modes), repeat=len(live)):
                told = tuple(dict(zip(live, modes)).get(view, view[0]) for view in policy.views)
                worth = [weights[new] - weights[view[0]] for new, view in zip(told, policy.views)]
                if all(plain_total(policy, worth, lot) == 0 for lot in lots):
                    found.append(told)
            answer = keeping_rules(policy, tuple(weights))
            self.assertEqual(answer, tuple(found))
            self.all_tuples(answer)
            many.add(min(len(answer), 3))
        self.assertGreater(done, 60)
        self.assertEqual(many, {1, 2, 3})

    def test_facts(self):
        for degree in (2, 3, 4):
            policy = Policy(2, all_views(2, degree))
            self.assertEqual(keeping_rules(policy=policy, weights=[0, 1]), (tuple(view[0] for view in policy.views),))
            self.assertEqual(len(keeping_rules(policy, [1, 1])), 2 ** len(policy.views))
        self.assertGreater(len(keeping_rules(Policy(2, all_views(2, 1)), [0, 1])), 1)

    def test_nothing_is_changed(self):
        policy = degree_policy(2, (2,))
        rule = Rule(policy, [0 for _ in policy.views])
        weights, transfer = [0, 1], [(0, 1)]
        for work in (gains, moved_evidence, greatest_gain, fall, rest_bound, gain_step):
            self.all_tuples(work(rule, weights))
        ring = Network([0, 0, 0], [(0, 1), (1, 2), (0, 2)])
        moves(rule, weights, transfer, ring)
        keeping_rules(policy, weights)
        self.assertEqual((weights, transfer), ([0, 1], [(0, 1)]))
        self.assertIs(is_moved_evidence(rule, weights, Agreeable()), False)
        self.assertEqual(site_count(moved_evidence(rule, weights)[1]), 1)


if __name__ == "__main__":
    unittest.main()

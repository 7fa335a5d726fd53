"""Over the whole program: what a function of one chapter tells is taken by the functions of the others."""

import unittest

from plain import Case, balanced, dice, fraction, strict_transfer
from test_common import even_network

from handalong.building import compact
from handalong.changes import ChangeBook
from handalong.clocks import clock_evidence, is_clock_evidence
from handalong.collected import collection_mean, network_collection
from handalong.common import apart, classes, common_cover, joint, standing_cover, standings
from handalong.covers import cover, is_over, shifted
from handalong.cuts import cut_evidence, is_cut_evidence, link_kinds
from handalong.debts import branch_debts, is_debt_evidence, least_choices, least_debts, least_tree, tree_mean
from handalong.desk import Desk
from handalong.drafts import untangled
from handalong.elementary import all_elements
from handalong.exchanges import exchange_row, exchanged, exchanges
from handalong.gains import better_book, rest_policy
from handalong.kept import nought_evidence
from handalong.linked import is_link_evidence, link_evidence
from handalong.live import live_views, tidy
from handalong.living import Living
from handalong.marks import Marked, MarkPolicy, breaks, least_marked, marked_cover, split, translated, unmarked, unsplit
from handalong.means import greatest_mean, is_least_evidence, least_mean, least_network
from handalong.moved import is_moved_evidence, moved_evidence, moves
from handalong.networks import Network, breaches, mean, pieces, side_by_side, total
from handalong.nexts import chain
from handalong.peeling import is_peeling, joined_policy, peel
from handalong.policies import Policy
from handalong.regions import connected, spans
from handalong.rings import back_times, doubled, girth, reduced, shortest_ring
from handalong.rules import Rule, beat, beats
from handalong.sections import cut_of, frontier
from handalong.settling import balance, end_evidence, is_balance, is_end_evidence
from handalong.sheets import sheet, sheet_holds
from handalong.sizes import best_sum
from handalong.steps import size_step
from handalong.texts import network_text, read_network
from handalong.transfers import lefts
from handalong.trees import grown, is_choices, is_tree, pumped, tree_views
from handalong.views import all_views
from handalong.weighings import effect, is_weighing, room, weight

CUBIC = Policy(2, all_views(2, 3))


class Together(Case):
    def test_networks(self):
        """Networks of all makers are taken by all that look at networks."""
        rng = dice(1)
        base = even_network(rng, 8, 3)
        base = Network([mode % 2 for mode in base.modes], base.links)
        one_way = common_cover(Network([0] * 4, [(0, 1), (0, 2), (0, 3), (1, 2), (1, 3), (2, 3)]),
                               Network([0] * 6, [(i, j) for i in range(3) for j in range(3, 6)]))[0]
        scores = [rng.randint(-9, 9) for _ in CUBIC.views]
        made = [base, one_way, doubled(Network([0, 1, 1, 0], [(0, 1), (0, 2), (0, 3), (1, 2), (1, 3), (2, 3)])),
                cover(base, 2, [[1, 0]] * 12), shifted(base, 3, range_list(12)), standing_cover(base, CUBIC, scores)[0],
                least_network(CUBIC, scores), unmarked(marked_cover(base)[0]), exchange_row(base, base)[0],
                untangled(([0, 0], [(0, 1), (0, 1), (0, 1)])), side_by_side([base, base]), connected(side_by_side([base, base])),
                beat(Rule(CUBIC, [1 - view[0] for view in CUBIC.views]), base), read_network(network_text(base))]
        for network in made:
            self.assertEqual(breaches(CUBIC, network), ())
            self.assertEqual(mean(CUBIC, scores, network), collection_mean(CUBIC, scores, network_collection(network)))
            self.assertGreaterEqual(fraction(mean(CUBIC, scores, network)), fraction(least_mean(CUBIC, scores)[1]))
            self.assertLessEqual(fraction(mean(CUBIC, scores, network)), fraction(greatest_mean(CUBIC, scores)[1]))
            self.assertEqual(read_network(network_text(network)), network)
            self.assertEqual(len(network.modes) % size_step(CUBIC), 0)
            self.assertEqual(len(shortest_ring(network)), girth(network))
            ring = shortest_ring(network)
            self.assertEqual((back_times(network, ring + ring[:1]), reduced(network, ring)), (1, ring))
            self.assertEqual(len(classes(network)), len(network.modes))
            self.assertEqual(cut_of(network, tuple(range(len(network.modes)))), ())
            self.assertGreaterEqual(frontier(network, pieces(network)[0]), 0)
            self.assertEqual(network_collection(compact(network_collection(network))) != (), True)
            for one, other in exchanges(network)[:1]:
                self.assertEqual(exchanged(network, one, other).site_views(), network.site_views())
            sites = marked_cover(network)[1]
            self.assertIs(is_over(unmarked(marked_cover(network)[0]), network, sites), True)
            living = Living(CUBIC)
            for mode in network.modes[:20]:
                living.add(mode)
            self.assertEqual(living.network().modes, network.modes[:20])

    def test_policies(self):
        """Policies of all makers are taken by all that look at policies."""
        table = ((0, 2), (1, 0))
        marked = MarkPolicy(1, 2, [(0, (0, 1)), (0, (0, 0))], [(0, 0, 0), (1, 0, 0)])
        two = Policy(2, [(0, (1,)), (1, (0, 1)), (1, (1, 1))])
        rule = Rule(two, [view[0] for view in two.views])
        for policy in (rest_policy(table, (1, 2)), translated(marked), joint(two, Policy(1, all_views(1, 1) + all_views(1, 2))), tidy(two),
                       chain(rule)[-1], joined_policy(two, Policy(2, [(0, (0,))]))):
            scores = list(range(len(policy.views)))
            answer = least_mean(policy, scores)
            self.assertIs(is_least_evidence(policy, scores, answer), True)
            self.assertIs(sheet_holds(policy, sheet(policy, "least", (scores,))), True)
            self.assertIs(is_clock_evidence(policy, scores, 3, clock_evidence(policy, scores, 3)), True)
            self.assertTrue(strict_transfer(policy.modes, answer[-1]))
            self.assertEqual(len(lefts(policy, scores, answer[-1])), len(scores))
            self.assertIs(is_peeling(policy, answer[2], peel(policy, answer[2])), True)
            self.assertTrue(all(balanced(lot) for lot in all_elements(policy)))
            self.assertIs(is_debt_evidence(policy, scores, answer[1], least_debts(policy, scores, answer[1])), True)
            keep = Rule(policy, [view[0] for view in policy.views])
            weights = [1] * policy.modes
            self.assertIs(is_moved_evidence(keep, weights, moved_evidence(keep, weights)), True)
            pairs = [0] * (policy.modes * (policy.modes + 1) // 2)
            self.assertIs(is_link_evidence(keep, pairs, link_evidence(keep, pairs)), True)
            cut = ((link_kinds(policy)[0], 1),)
            self.assertIs(is_cut_evidence(policy, cut, cut_evidence(policy, cut)), True)
            self.assertIsNotNone(best_sum(policy, scores, 12) or True)
            self.assertEqual(Living(policy).policy, policy)
            self.assertGreaterEqual(len(live_views(policy)), 1)

    def test_trees(self):
        policy = Policy(2, [(0, (1,)), (1, (0, 1)), (1, (1, 1)), (1, (0, 0, 1))])
        scores, limit = [3, 1, 2, 2], (2, 1)
        choices = least_choices(policy, scores, limit)
        self.assertIs(is_choices(policy, choices), True)
        self.assertEqual(len(branch_debts(policy, scores, limit, choices)), 3)
        mean_told = tree_mean(policy, scores)
        for tree in (grown(policy, choices, tree_views(policy)[-1]), pumped(policy, mean_told[5], mean_told[4], 30),
                     least_tree(policy, scores, limit)):
            self.assertIs(is_tree(tree), True)
            self.assertEqual(breaches(policy, tree), ())
            self.assertGreaterEqual(fraction(mean(policy, scores, tree)), fraction(least_mean(policy, scores)[1]))
            self.assertIsNone(girth(tree))
            self.assertEqual(doubled(tree), tree)
            self.assertIsNone(apart(tree, tree))
            rule = Rule(policy, [view[0] for view in policy.views])
            self.assertEqual(beats(rule, tree, 1)[-1], tree)
            transfer = nought_evidence(policy, [0] * 4)[1]
            self.assertEqual(len(moves(rule, [1, 1], transfer, tree)), len(tree.links))

    def test_marks(self):
        rng = dice(2)
        network = even_network(rng, 8, 2)
        network = Network([0] * 8, network.links)
        marked, sites = marked_cover(network)
        policy = MarkPolicy(1, 2, [(0, (0, 1))], [(0, 0, 0), (1, 0, 0)])
        self.assertEqual(breaks(policy, marked), ((), ()))
        whole = split(marked, 1)
        self.assertEqual(breaches(translated(policy), whole), ())
        self.assertEqual(unsplit(whole, policy), marked)
        self.assertEqual(least_marked(policy, [5])[1], (5, 1))
        self.assertEqual(total(translated(policy), [5, 0, 0], whole), 5 * len(marked.modes))
        self.assertEqual(Marked(marked.modes, marked.links), marked)
        self.assertEqual(len(sites), len(marked.modes))

    def test_changes(self):
        table = ((0, 2, 1), (1, 0, 2), (2, 1, 0))
        book = better_book(table, (1,))
        self.assertLessEqual(len(book.changes), 12)
        answer = balance(book)
        self.assertIs(is_balance(book, answer), True)
        self.assertIs(is_weighing(3, answer[0]), True)
        network = Network([0, 0, 1, 2], [(0, 1), (2, 3)])
        steps = book.possible(network)[:1]
        behind = book.played(network, steps)
        change = network.view(steps[0][0]) + (steps[0][1],)
        self.assertEqual(weight(answer[0], behind) - weight(answer[0], network), effect(answer[0], change))
        self.assertGreaterEqual(room(answer[0], network), 0)
        turning = ChangeBook(2, [(0, (0,), 1), (1, (0,), 0)])
        told = end_evidence(turning)
        self.assertIs(is_end_evidence(turning, told), True)
        self.assertEqual(turning.played(told[1], told[2]), told[1])
        self.assertEqual(read_network(network_text(told[1])), told[1])

    def test_standings(self):
        one, other = Policy(2, all_views(2, 2)), Policy(2, all_views(2, 2))
        both = joint(one, other)
        network = Network([3, 0, 2, 1], [(0, 1), (1, 2), (2, 3), (0, 3)])
        self.assertEqual(breaches(both, network), ())
        first, second = standings(network, 2)
        self.assertEqual((breaches(one, first), breaches(other, second)), ((), ()))
        self.assertIsNotNone(common_cover(first, second, modes=False))
        self.assertEqual(len(spans(one, [0] * 6)), 1)

    def test_desk_and_living(self):
        desk = Desk()
        desk.say("policy 2 0:1 1:00 1:1")
        network = least_network(desk.policy, [0, 6, 5])
        for mode in network.modes:
            desk.living.add(mode)
        for one, other in network.links:
            desk.living.link(one, other)
        self.assertEqual(desk.living.network(), network)
        self.assertEqual((desk.say("wrong"), desk.say("total 0 6 5")), ("none", str(total(desk.policy, [0, 6, 5], network))))
        transfer = least_mean(desk.policy, [0, 6, 5])[3]
        self.assertEqual(sum(fraction(left) for left in desk.living.left_at([0, 6, 5], transfer)), desk.living.total([0, 6, 5]))


def range_list(many):
    return list(range(many))


if __name__ == "__main__":
    unittest.main()

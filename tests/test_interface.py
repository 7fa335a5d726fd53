"""[1] to [3] and the interface: names, arguments, where they are defined, and what never changes."""

import importlib
import inspect
import re
import unittest

from plain import ODD, Agreeable

from handalong.building import build, compact, seats
from handalong.changes import ChangeBook
from handalong.collected import collection_mean, is_collection, network_collection, sites, unbalanced
from handalong.desk import Desk
from handalong.drafts import draft_views, untangled
from handalong.living import Living
from handalong.marks import Marked, MarkPolicy
from handalong.means import least_mean, least_network
from handalong.networks import Network, breaches, mean, pieces, side_by_side
from handalong.policies import Policy
from handalong.ratios import compared
from handalong.rules import Rule
from handalong.texts import network_text, read_network
from handalong.tight import tight_views
from handalong.views import all_views

FUNCTIONS = """
ratios: is_fraction(value) made(top, bottom) added(one, other) less(one, other) times(one, other) compared(one, other)
views: is_view(value) made_view(mode, neighbours) all_views(modes, degree) seen(view, mode)
policies: part(policy, places) checked_scores(policy, scores)
networks: side_by_side(networks) pieces(network) breaches(policy, network)
networks: total(policy, scores, network) mean(policy, scores, network)
collected: is_collection(value) checked_collection(value) collected(views) sites(collection) copies(collection, many)
collected: joined(one, other) half_links(collection, a, b) unbalanced(collection) network_collection(network)
collected: collection_total(policy, scores, collection) collection_mean(policy, scores, collection)
texts: policy_text(policy) network_text(network) read_policy(text) read_network(text)
degrees: row_fault(row) row_graph(row) row_graph_count(row)
degrees: sides_fault(left, right) sides_graph(left, right) sides_graph_count(left, right)
building: kind_rows(plan, a, b) plan_fault(plan) is_plan_fault(plan, value) build(plan) fitting_count(plan)
building: sure_links(plan) seats(collection) lowest(collection) is_good(collection, number)
building: good_numbers(collection, most) least_good(collection) compact(collection) share_sizes(collection, most)
drafts: draft_views(draft) draft_of(plan) copies_needed(draft) untangled(draft)
transfers: is_transfer(modes, value) sends(transfer, view) lefts(policy, scores, transfer)
means: least_mean(policy, scores) greatest_mean(policy, scores) least_network(policy, scores)
means: is_least_evidence(policy, scores, value) is_greatest_evidence(policy, scores, value)
better: best_or_better(policy, scores, transfer) least_or_lower(policy, scores, collection)
tight: tight_views(policy, scores) is_tight_evidence(policy, scores, value)
margins: toll(policy, scores, at) is_toll_evidence(policy, scores, at, value)
margins: most_sent(policy, scores, a, b) is_most_evidence(policy, scores, a, b, value)
between: with_mean(policy, scores, ratio) is_with_evidence(policy, scores, ratio, value)
live: live_views(policy) dead_views(policy) live_modes(policy) live_evidence(policy) is_live_evidence(policy, value)
live: tidy(policy) narrower(one, other) alike(one, other)
forced: never_evidence(policy, views) is_never_evidence(policy, views, value) force_evidence(policy, having, some)
forced: is_force_evidence(policy, having, some, value) needed_modes(policy) forced_modes(policy)
kept: mean_evidence(policy, scores) is_mean_evidence(policy, scores, value) pinned_modes(policy)
kept: nought_evidence(policy, scores) is_nought_evidence(policy, scores, value) leading_views(policy)
kept: plain_scores(policy, scores) same_sums(policy, one, other) mode_laws(policy) weights_evidence(policy, scores)
kept: is_weights_evidence(policy, scores, value)
clocks: is_clock(policy, scores, m, value) clock_evidence(policy, scores, m) is_clock_evidence(policy, scores, m, value)
steps: sum_step(policy, scores) size_step(policy) link_steps(policy) sum_rule(policy, scores)
sizes: size_evidence(policy) is_size_evidence(policy, value) sums_from(sizes) sizes_to(policy, limit)
sizes: best_sum(policy, scores, number) tight_step(policy, scores)
elementary: all_elements(policy) is_element(policy, value) elements_within(policy, lot) shown_part(policy, lot)
elementary: is_shown(policy, lot) shown_lots(policy)
peeling: peel(policy, collection) is_peeling(policy, collection, value) element_means(policy, scores)
peeling: best_elements(policy, scores) joined_policy(one, other) mixed_elements(one, other) mixing_scores(one, other)
forbidding: low_elements(policy, scores, limit) is_ban(policy, scores, limit, lot)
forbidding: ban_evidence(policy, scores, limit, lot) is_ban_evidence(policy, scores, limit, lot, value)
forbidding: least_bans(policy, scores, limit, *, keep=()) ban_reasons(policy, scores, limit, lot)
forbidding: cheapest_ban(policy, scores, limit, prices, *, keep=()) best_ban(policy, scores, many, *, keep=())
forbidding: least_blocks(policy, *, keep=()) least_meeting(lots)
polygons: corners(policy, first, second) directions(points) polygon(policy, first, second)
polygons: polygon_holds(policy, first, second, paper) outside(policy, first, second, point)
polygons: some_at(policy, first, second, point) border(policy, first, second, *, value=(0, 1))
shares: worst_ratio(policy, first, second) ratio_holds(policy, first, second, paper)
shares: limited(policy, first, second, *, limit=(0, 1)) limited_holds(policy, first, second, paper, *, limit=(0, 1))
shares: curve(policy, first, second) at_price(policy, first, second, *, price=(1, 1)) loose(policy, scores)
sections: cut_of(network, sites) frontier(network, sites) gap(collection) rate(policy, scores, price)
sections: is_rate_evidence(policy, scores, price, value) rate_steps(policy, scores) rate_section(policy, scores, price)
regions: regions(policy) spans(policy, scores) connected(network)
cuts: link_kinds(policy) cut_evidence(policy, cut) is_cut_evidence(policy, cut, value) bridges(policy)
rules: beat(rule, network) beats(rule, network, many)
nexts: next_views(rule) escape(rule) chain(rule)
moved: gains(rule, weights) moved_evidence(rule, weights) greatest_gain(rule, weights) fall(rule, weights)
moved: rest_bound(rule, weights) gain_step(rule, weights) is_moved_evidence(rule, weights, value)
moved: moves(rule, weights, transfer, network) kept_weights(rule) lasting_weights(rule) keeping_rules(policy, weights)
linked: link_evidence(rule, link_weights) is_link_evidence(rule, link_weights, value)
weighings: is_weighing(modes, value) weight(weighing, network) effect(weighing, change) room(weighing, network)
settling: passing(book) balance(book) is_balance(book, value) always_ends(book) end_evidence(book)
settling: is_end_evidence(book, value)
gains: is_table(value) gain(table, view) rest_policy(table, sizes) better_book(table, sizes) exact_weights(table)
gains: is_exact(table, value)
rests: worst_rest(table, degree) joint_ratio(one, first, other, second)
common: classes(network, *, modes=True) common_cover(one, other, *, modes=True) apart(one, other, *, modes=True)
common: shows_apart(one, other, value, *, modes=True) standing_cover(network, policy, scores) joint(one, other)
common: standings(network, many)
covers: cover(network, copies, turns) shifted(network, copies, shifts) is_over(network, base, sites, *, modes=True)
rings: girth(network) shortest_ring(network) doubled(network) back_times(network, walk) reduced(network, walk)
exchanges: exchanged(network, one, other) exchanges(network) seen_alike(one, other) exchange_row(one, other)
sheets: sheet_holds(policy, value) sheet(policy, kind, question) wrong_sheets(policy, values)
trees: is_tree(network) tree_views(policy) tree_links(policy) is_choices(policy, value) grown(policy, choices, view)
trees: pumped(policy, choices, road, times)
debts: branch_debts(policy, scores, limit, choices) least_debts(policy, scores, limit)
debts: is_debt_evidence(policy, scores, limit, value) least_choices(policy, scores, limit)
debts: least_tree(policy, scores, limit) view_floors(policy, scores, limit) link_floors(policy, scores, limit)
debts: fewest_sites(policy) most_sites(policy) tree_mean(policy, scores) is_tree_mean(policy, scores, value)
marks: unmarked(marked) breaks(policy, marked) split(marked, modes) translated(policy) unsplit(network, policy)
marks: least_marked(policy, scores) is_marked_evidence(policy, scores, value) marked_cover(network)
"""

CLASSES = {
    "policies": {"Policy": {"__init__": "self, modes, views", "spot": "self, view", "__eq__": None}},
    "networks": {"Network": {"__init__": "self, modes, links", "neighbours": "self, at", "view": "self, at",
                             "site_views": "self", "__eq__": None}},
    "changes": {"ChangeBook": {"__init__": "self, modes, changes", "possible": "self, network",
                               "played": "self, network, steps", "__eq__": None}},
    "living": {"Living": {"__init__": "self, policy", "__len__": "self", "add": "self, mode", "turn": "self, site, mode",
                          "link": "self, one, other", "cut": "self, one, other", "network": "self", "undo": "self",
                          "within": "self, work", "wrong_sites": "self", "obeys": "self", "total": "self, scores",
                          "left_at": "self, scores, transfer", "waiting": "self, site", "open_ends": "self"}},
    "desk": {"Desk": {"__init__": "self", "say": "self, command"}},
    "marks": {"Marked": {"__init__": "self, modes, links", "row": "self, at", "__eq__": None},
              "MarkPolicy": {"__init__": "self, modes, marks, rows, ties", "__eq__": None}},
    "rules": {"Rule": {"__init__": "self, policy, told", "new_mode": "self, view", "__eq__": None}},
}


def told_functions():
    for line in FUNCTIONS.strip().splitlines():
        module, rest = line.split(": ", 1)
        for name, names in re.findall(r"(\w+)\(((?:[^()]|\([^()]*\))*)\)", rest):
            yield module, name, names


class Interface(unittest.TestCase):
    def test_functions(self):
        for module, name, names in told_functions():
            work = getattr(importlib.import_module("handalong." + module), name)
            self.assertTrue(inspect.isfunction(work), name)
            self.assertEqual(work.__module__, "handalong." + module)
            self.assertEqual(str(inspect.signature(work)), f"({names})", name)
            for each in inspect.signature(work).parameters.values():
                if each.default is not each.empty:
                    self.assertIs(each.kind, each.KEYWORD_ONLY)
                    self.assertIn(type(each.default), (tuple, bool))

    def test_all_are_told_here(self):
        self.assertEqual(len(list(told_functions())), len(set(told_functions())))
        self.assertIn(("shares", "at_price", "policy, first, second, *, price=(1, 1)"), list(told_functions()))

    def test_classes(self):
        for module, kinds in CLASSES.items():
            for name, methods in kinds.items():
                kind = getattr(importlib.import_module("handalong." + module), name)
                self.assertTrue(inspect.isclass(kind))
                self.assertEqual(kind.__module__, "handalong." + module)
                for method, names in methods.items():
                    self.assertIn(method, vars(kind))
                    if names is not None:
                        self.assertEqual(", ".join(inspect.signature(vars(kind)[method]).parameters), names)


class NothingElseIsEqual(unittest.TestCase):
    def test_objects(self):
        objects = [Policy(1, []), Policy(2, [(0, (0,))]), Network([0], []), Network([0, 1], [(0, 1)]),
                   ChangeBook(1, []), ChangeBook(2, [(0, (), 1)]), Living(Policy(1, [])), Desk(), Marked([0], []),
                   Marked([0, 1], [(0, 1, 0)]), MarkPolicy(1, 1, [], []), MarkPolicy(2, 1, [], [(0, 0, 0)]), Rule(Policy(1, []), []), Rule(Policy(2, [(0, (0,))]), [1])]
        for at, one in enumerate(objects):
            for place, other in enumerate(objects):
                self.assertIs(one == other, at == place)
                self.assertIs(one != other, at != place)
            for value in ODD + [(), [], vars(one), *vars(one).values(), tuple(vars(one).values()), 1]:
                self.assertIs(one == value, False)
                if not isinstance(value, Agreeable):
                    self.assertIs(value == one, False)


    def test_attributes(self):
        """Those that the interface lists are there when an object is made."""
        for thing, names in ((Policy(1, []), "modes views"), (Network([0], []), "modes links"), (ChangeBook(1, []), "modes changes"),
                             (Rule(Policy(1, []), []), "policy told"), (Living(Policy(1, [])), "policy modes links"),
                             (Desk(), "policy living"), (Marked([0], []), "modes links"),
                             (MarkPolicy(1, 1, [], []), "modes marks rows ties")):
            self.assertLessEqual(set(names.split()), set(vars(thing)))


class WhatIsToldMayBePassed(unittest.TestCase):
    def test_large_networks(self):
        network = untangled(([0] * 64, [(at, at) for at in range(64) for _ in range(2)]))
        self.assertEqual(len(network.modes), 320)
        policy = Policy(1, [(0, (0, 0, 0, 0))])
        self.assertEqual(mean(policy, [3], network), (3, 1))
        self.assertEqual(breaches(policy, network), ())
        self.assertEqual(len(pieces(network)), 64)
        self.assertEqual(network_collection(network), (((0, (0, 0, 0, 0)), 320),))
        self.assertEqual(read_network(network_text(network)), network)
        self.assertEqual(build(network.site_views()).site_views(), network.site_views())
        self.assertEqual(len(side_by_side([network] * 4).modes), 1280)
        self.assertEqual(draft_views((network.modes, network.links)), network.site_views())

    def test_large_collections(self):
        policy = Policy(3, [view for degree in range(5) for view in all_views(3, degree)])
        lot = tight_views(policy, [0] * 105)[1]
        self.assertEqual(len(lot), 105)
        self.assertTrue(is_collection(lot))
        self.assertIsNone(unbalanced(lot))
        self.assertEqual(collection_mean(policy, [0] * 105, lot), (0, 1))
        self.assertEqual(len(seats(lot)), sites(lot))
        network = compact(lot)
        self.assertEqual(len(network.modes) % sites(lot), 0)
        self.assertEqual(breaches(policy, network), ())

    def test_least_networks(self):
        policy = Policy(2, [view for degree in range(4) for view in all_views(2, degree)])
        scores = [(7 * at) % 11 for at in range(len(policy.views))]
        network = least_network(policy, scores)
        self.assertEqual(compared(mean(policy, scores, network), least_mean(policy, scores)[1]), 0)
        self.assertEqual(collection_mean(policy, scores, network_collection(network)), mean(policy, scores, network))


if __name__ == "__main__":
    unittest.main()

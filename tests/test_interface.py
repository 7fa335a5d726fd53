"""[1] to [3] and the interface: names, arguments, where they are defined, and what never changes."""

import importlib
import inspect
import unittest

from plain import ODD, Agreeable

from handalong.building import build, compact, seats
from handalong.collected import collection_mean, is_collection, network_collection, sites, unbalanced
from handalong.drafts import draft_views, untangled
from handalong.means import least_mean, least_network
from handalong.networks import Network, breaches, mean, pieces, side_by_side
from handalong.policies import Policy
from handalong.ratios import compared
from handalong.texts import network_text, read_network
from handalong.tight import tight_views
from handalong.views import all_views

FUNCTIONS = """
ratios: is_fraction(value) made(top, bottom) added(one, other) less(one, other) times(one, other) compared(one, other)
views: is_view(value) made_view(mode, neighbours) all_views(modes, degree) seen(view, mode)
policies: part(policy, places) checked_scores(policy, scores)
networks: side_by_side(networks) pieces(network) breaches(policy, network)
networks: total(policy, scores, network) mean(policy, scores, network)
collected: is_collection(value) checked_collection(value) collected(views) sites(collection) copies(collection, many)
collected: joined(one, other) half_links(collection, a, b) unbalanced(collection) network_collection(network)
collected: collection_total(policy, scores, collection) collection_mean(policy, scores, collection)
texts: policy_text(policy) network_text(network) read_policy(text) read_network(text)
degrees: row_fault(row) row_graph(row) row_graph_count(row)
degrees: sides_fault(left, right) sides_graph(left, right) sides_graph_count(left, right)
building: kind_rows(plan, a, b) plan_fault(plan) is_plan_fault(plan, value) build(plan) fitting_count(plan)
building: sure_links(plan) seats(collection) lowest(collection) is_good(collection, number)
building: good_numbers(collection, most) least_good(collection) compact(collection) share_sizes(collection, most)
drafts: draft_views(draft) draft_of(plan) copies_needed(draft) untangled(draft)
transfers: is_transfer(modes, value) sends(transfer, view) lefts(policy, scores, transfer)
means: least_mean(policy, scores) greatest_mean(policy, scores) least_network(policy, scores)
means: is_least_evidence(policy, scores, value) is_greatest_evidence(policy, scores, value)
better: best_or_better(policy, scores, transfer) least_or_lower(policy, scores, collection)
tight: tight_views(policy, scores) is_tight_evidence(policy, scores, value)
margins: toll(policy, scores, at) is_toll_evidence(policy, scores, at, value)
margins: most_sent(policy, scores, a, b) is_most_evidence(policy, scores, a, b, value)
between: with_mean(policy, scores, ratio) is_with_evidence(policy, scores, ratio, value)
live: live_views(policy) dead_views(policy) live_modes(policy) live_evidence(policy) is_live_evidence(policy, value)
live: tidy(policy) narrower(one, other) alike(one, other)
forced: never_evidence(policy, views) is_never_evidence(policy, views, value) force_evidence(policy, having, some)
forced: is_force_evidence(policy, having, some, value) needed_modes(policy) forced_modes(policy)
kept: mean_evidence(policy, scores) is_mean_evidence(policy, scores, value) pinned_modes(policy)
kept: nought_evidence(policy, scores) is_nought_evidence(policy, scores, value) leading_views(policy)
kept: plain_scores(policy, scores) same_sums(policy, one, other) mode_laws(policy) weights_evidence(policy, scores)
kept: is_weights_evidence(policy, scores, value)
clocks: is_clock(policy, scores, m, value) clock_evidence(policy, scores, m) is_clock_evidence(policy, scores, m, value)
steps: sum_step(policy, scores) size_step(policy) link_steps(policy) sum_rule(policy, scores)
sizes: size_evidence(policy) is_size_evidence(policy, value) sums_from(sizes) sizes_to(policy, limit)
sizes: best_sum(policy, scores, number) tight_step(policy, scores)
elementary: all_elements(policy) is_element(policy, value) elements_within(policy, lot) shown_part(policy, lot)
elementary: is_shown(policy, lot) shown_lots(policy)
peeling: peel(policy, collection) is_peeling(policy, collection, value) element_means(policy, scores)
peeling: best_elements(policy, scores) joined_policy(one, other) mixed_elements(one, other) mixing_scores(one, other)
"""

CLASSES = {
    "policies": {"Policy": {"__init__": "self, modes, views", "spot": "self, view", "__eq__": None}},
    "networks": {"Network": {"__init__": "self, modes, links", "neighbours": "self, at", "view": "self, at",
                             "site_views": "self", "__eq__": None}},
}


def told_functions():
    for line in FUNCTIONS.strip().splitlines():
        module, rest = line.split(": ", 1)
        for word in rest.split(")")[:-1]:
            name, names = word.strip().split("(")
            yield module, name, names


class Interface(unittest.TestCase):
    def test_functions(self):
        for module, name, names in told_functions():
            work = getattr(importlib.import_module("handalong." + module), name)
            self.assertTrue(inspect.isfunction(work), name)
            self.assertEqual(work.__module__, "handalong." + module)
            told = inspect.signature(work).parameters.values()
            self.assertEqual(", ".join(each.name for each in told), names, name)
            self.assertTrue(all(each.default is each.empty for each in told), name)

    def test_classes(self):
        for module, kinds in CLASSES.items():
            for name, methods in kinds.items():
                kind = getattr(importlib.import_module("handalong." + module), name)
                self.assertTrue(inspect.isclass(kind))
                self.assertEqual(kind.__module__, "handalong." + module)
                for method, names in methods.items():
                    self.assertIn(method, vars(kind))
                    if names is not None:
                        self.assertEqual(", ".join(inspect.signature(vars(kind)[method]).parameters), names)


class NothingElseIsEqual(unittest.TestCase):
    def test_objects(self):
        objects = [Policy(1, []), Policy(2, [(0, (0,))]), Network([0], []), Network([0, 1], [(0, 1)])]
        for at, one in enumerate(objects):
            for place, other in enumerate(objects):
                self.assertIs(one == other, at == place)
                self.assertIs(one != other, at != place)
            for value in ODD + [one.modes, (), [], vars(one), (one.modes, ()), 1]:
                self.assertIs(one == value, False)
                if not isinstance(value, Agreeable):
                    self.assertIs(value == one, False)


class WhatIsToldMayBePassed(unittest.TestCase):
    def test_large_networks(self):
        network = untangled(([0] * 64, [(at, at) for at in range(64) for _ in range(2)]))
        self.assertEqual(len(network.modes), 320)
        policy = Policy(1, [(0, (0, 0, 0, 0))])
        self.assertEqual(mean(policy, [3], network), (3, 1))
        self.assertEqual(breaches(policy, network), ())
        self.assertEqual(len(pieces(network)), 64)
        self.assertEqual(network_collection(network), (((0, (0, 0, 0, 0)), 320),))
        self.assertEqual(read_network(network_text(network)), network)
        self.assertEqual(build(network.site_views()).site_views(), network.site_views())
        self.assertEqual(len(side_by_side([network] * 4).modes), 1280)
        self.assertEqual(draft_views((network.modes, network.links)), network.site_views())

    def test_large_collections(self):
        policy = Policy(3, [view for degree in range(5) for view in all_views(3, degree)])
        lot = tight_views(policy, [0] * 105)[1]
        self.assertEqual(len(lot), 105)
        self.assertTrue(is_collection(lot))
        self.assertIsNone(unbalanced(lot))
        self.assertEqual(collection_mean(policy, [0] * 105, lot), (0, 1))
        self.assertEqual(len(seats(lot)), sites(lot))
        network = compact(lot)
        self.assertEqual(len(network.modes) % sites(lot), 0)
        self.assertEqual(breaches(policy, network), ())

    def test_least_networks(self):
        policy = Policy(2, [view for degree in range(4) for view in all_views(2, degree)])
        scores = [(7 * at) % 11 for at in range(len(policy.views))]
        network = least_network(policy, scores)
        self.assertEqual(compared(mean(policy, scores, network), least_mean(policy, scores)[1]), 0)
        self.assertEqual(collection_mean(policy, scores, network_collection(network)), mean(policy, scores, network))


if __name__ == "__main__":
    unittest.main()

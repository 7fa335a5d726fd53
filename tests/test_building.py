"""[14] to [16]: plans, how many networks fit, collections and good numbers."""

import unittest
from collections import defaultdict
from itertools import product

from plain import ODD, between, dice, half, random_network_parts, random_policy_views, simple_graphs, walked_views
from test_degrees import plain_fault, plain_sides_fault

from handalong.building import (build, compact, fitting_count, good_numbers, is_good, is_plan_fault, kind_rows, least_good,
                                lowest, plan_fault, seats, share_sizes, sure_links)
from handalong.collected import copies, network_collection, sites
from handalong.errors import Refused
from handalong.networks import Network

KINDS = [(a, b) for a in range(4) for b in range(a, 4)]
CUBIC = (0, (0, 0, 0))


def plain_rows(plan, a, b):
    return (tuple(between(view, a, b) for view in plan if view[0] == a),
            tuple(between(view, b, a) for view in plan if view[0] == b))


def plain_plan_fault(plan):
    for a, b in KINDS:
        left, right = plain_rows(plan, a, b)
        fault = plain_fault(left) if a == b else plain_sides_fault(left, right)
        if fault is not None:
            return (a, b, fault)
    return None


def plain_bars(plan, a, b, k):
    """Whether a triple bars the plan, by the words of the document."""
    left, right = plain_rows(plan, a, b)
    if k > len(left):
        return False
    if k == 0:
        return sum(left) % 2 == 1 if a == b else sum(left) != sum(right)
    ordered = sorted(left, reverse=True)
    if a == b:
        return sum(ordered[:k]) > k * (k - 1) + sum(min(number, k) for number in ordered[k:])
    return sum(ordered[:k]) > sum(min(number, k) for number in right)


def fitting_networks(n, modes):
    """For each plan that fits some network of n sites the links of all networks that fit it."""
    found = defaultdict(list)
    graphs = list(simple_graphs(n))
    for told in product(range(modes), repeat=n):
        for graph in graphs:
            if all(sum(at in link for link in graph) <= 4 for at in range(n)):
                found[walked_views(told, graph)].append(graph)
    return found


class Plans(unittest.TestCase):
    def check_build(self, plan):
        network = build(plan)
        self.assertIs(type(network), Network)
        self.assertEqual(network.site_views(), tuple(plan))
        self.assertEqual(walked_views(network.modes, network.links), tuple(plan))

    def check_refused(self, plan, work):
        with self.assertRaises(Refused) as caught:
            work(plan)
        self.assertEqual(caught.exception.at, plain_plan_fault(plan)[2])

    def check_faults(self, plan):
        for a, b in product(range(4), repeat=2):
            length = len(plain_rows(plan, a, b)[0])
            for k in range(length + 3):
                told = a <= b and plain_bars(plan, a, b, k)
                self.assertIs(is_plan_fault(plan, (a, b, k)), told, (plan, a, b, k))

    def test_all_small_networks(self):
        for n, modes in [(1, 4), (2, 4), (3, 3), (4, 2), (5, 1)]:
            for plan, graphs in fitting_networks(n, modes).items():
                self.assertIsNone(plan_fault(plan))
                self.assertEqual(fitting_count(plan), len(graphs))
                sure = set(graphs[0]).intersection(*graphs)
                self.assertEqual(sure_links(plan), tuple(sorted(sure)))
                self.check_build(plan)
                self.check_faults(plan)

    def test_random_plans(self):
        rng = dice(16)
        known = {n: fitting_networks(n, 2) for n in (2, 3, 4)}
        for _ in range(400):
            n = rng.choice((2, 3, 4))
            plan = [rng.choice(random_policy_views(rng, 2, 3, most=3)) for _ in range(n)]
            fault = plain_plan_fault(plan)
            self.assertEqual(plan_fault(plan), fault)
            self.assertEqual(fault is None, tuple(plan) in known[n])
            self.assertEqual(fitting_count(plan), len(known[n].get(tuple(plan), ())))
            self.check_faults(plan)
            if fault is None:
                self.check_build(plan)
            else:
                self.assertIs(is_plan_fault(plan, fault), True)
                self.check_refused(plan, build)
                self.check_refused(plan, sure_links)

    def test_kind_rows(self):
        plan = [(0, (0, 1, 1)), (1, (0,)), (0, (1, 3)), (3, ()), (1, (0, 0))]
        self.assertEqual(kind_rows(plan, 0, 1), ((2, 1), (1, 2)))
        self.assertEqual(kind_rows(plan, 1, 0), ((1, 2), (2, 1)))
        self.assertEqual(kind_rows(plan, 0, 0), ((1, 0), (1, 0)))
        self.assertEqual(kind_rows(plan=tuple(plan), a=0, b=3), ((0, 1), (0,)))
        self.assertEqual(kind_rows(plan, 2, 3), ((), (0,)))
        self.assertEqual(kind_rows(plan, 2, 2), ((), ()))

    def test_faults_by_hand(self):
        self.assertIsNone(plan_fault([(0, ())]))
        self.assertEqual(plan_fault([(0, (0,))]), (0, 0, 0))
        self.assertEqual(plan_fault([(0, (0, 0))]), (0, 0, 1))
        self.assertEqual(plan_fault([CUBIC, CUBIC, (0, (0,)), (0, (0,))]), (0, 0, 2))
        self.assertEqual(plan_fault([(0, (1,)), (1, ())]), (0, 1, 0))
        self.assertEqual(plan_fault([(0, (3,))]), (0, 3, 0))
        self.assertEqual(plan_fault(plan=((3, (2,)),)), (2, 3, 0))
        self.assertEqual(plan_fault([(1, (2, 2)), (2, (1, 1))]), (1, 2, 1))
        self.assertEqual(plan_fault([(3, (3, 3, 3, 3))] * 4), (3, 3, 1))
        # The kinds come in the order (0, 0), (0, 1), .., (1, 1) ..
        self.assertEqual(plan_fault([(1, (1,)), (0, (2,))]), (0, 2, 0))
        self.assertEqual(plan_fault([(1, (1,)), (0, (0,))]), (0, 0, 0))

    def test_is_plan_fault_of_any_value(self):
        plan = [(0, (0,)), (1, (0,))]
        self.assertIs(is_plan_fault(plan, (0, 0, 0)), True)
        self.assertIs(is_plan_fault(plan=plan, value=(0, 1, 0)), True)
        wrong = [(0, 0), (0, 0, 0, 0), [0, 0, 0], (False, 0, 0), (0, False, 0), (0, 0, False), (0, 0, -1), (-1, 0, 0), (0, 4, 0),
                 (4, 4, 0), (0, 0, 1.0), (0.0, 0, 0), (0, None, 0), ("0", "0", "0"), "000", (1, 0, 0), (0, 0, None), (0, 3, 0),
                 (0, 0, 3), (3, 3, 1), 0]
        for value in wrong + ODD:
            self.assertIs(is_plan_fault(plan, value), False, value)

    def test_faults_that_are_neither_first_nor_least(self):
        plan = [(0, (0, 0, 0))] * 3
        self.assertEqual(plan_fault(plan), (0, 0, 0))
        self.assertEqual([k for k in range(5) if is_plan_fault(plan, (0, 0, k))], [0, 1, 2, 3])
        plan = [(0, (1, 1, 1))] * 2 + [(1, (0, 0, 0))] * 2 + [(2, (3,))]
        self.assertEqual(plan_fault(plan), (0, 1, 1))
        self.assertEqual([k for k in range(4) if is_plan_fault(plan, (0, 1, k))], [1, 2])
        self.assertIs(is_plan_fault(plan, (2, 3, 0)), True)
        self.assertIs(is_plan_fault(plan, (2, 3, 1)), True)
        # Unlike sums where the left wants less: only 0 bars.
        plan = [(0, (1,)), (1, (0, 0))]
        self.assertEqual([k for k in range(3) if is_plan_fault(plan, (0, 1, k))], [0])

    def test_plans_of_64(self):
        rng = dice(17)
        for modes in (1, 2, 3, 4):
            plan = walked_views(*random_network_parts(rng, modes, 64, tries=2000))
            self.assertIsNone(plan_fault(plan))
            self.check_build(plan)
            self.check_build(list(plan))
            wrong = [(0, (0,)), *plan[1:]] if plan[0] != (0, (0,)) else [(0, ()), *plan[1:]]
            self.assertEqual(plan_fault(wrong), plain_plan_fault(wrong))
        self.check_build([CUBIC] * 64)
        self.check_build([(0, (1, 1, 1, 1))] * 32 + [(1, (0, 0, 0, 0))] * 32)

    def test_eight_sites(self):
        self.assertEqual(fitting_count([CUBIC] * 8), 19355)
        self.assertEqual(sure_links([CUBIC] * 8), ())
        both = [(0, (0, 1))] * 4 + [(1, (0, 1))] * 4
        self.assertEqual(fitting_count(both), 3 * 3 * 24)
        self.assertEqual(fitting_count(plan=[(0, ())] * 8), 1)
        self.assertEqual(sure_links(plan=tuple([CUBIC] * 4)), ((0, 1), (0, 2), (0, 3), (1, 2), (1, 3), (2, 3)))
        path = [(0, (1,)), (1, (0, 0)), (0, (1,)), (2, (2,)), (2, (2,))]
        self.assertEqual(sure_links(path), ((0, 1), (1, 2), (3, 4)))
        # Some links are sure, others are not: the site with all four neighbours is linked to each.
        wheel = [(0, (0, 0, 0, 0)), *[(0, (0, 0))] * 4]
        self.assertEqual(fitting_count(wheel), 3)
        self.assertEqual(sure_links(wheel), ((0, 1), (0, 2), (0, 3), (0, 4)))
        self.assertEqual(fitting_count([CUBIC] * 7), 0)

    def test_eight_sites_against_swaps(self):
        rng = dice(18)
        for _ in range(30):
            modes, links = random_network_parts(rng, rng.choice((1, 2)), 7, tries=rng.choice((6, 14, 40)))
            plan = walked_views(modes, links)
            reached = swapped(modes, frozenset(links))
            self.assertEqual(fitting_count(plan), len(reached))
            self.assertEqual(sure_links(plan), tuple(sorted(frozenset.intersection(*reached))))


def swapped(modes, start):
    """All networks that exchanges of links lead to: those with the same views at the same sites."""
    reached = {start}
    waiting = [start]
    while waiting:
        links = waiting.pop()
        ordered = [(i, j) for i, j in links] + [(j, i) for i, j in links]
        for a, b in ordered:
            for c, d in ordered:
                if len({a, b, c, d}) < 4 or modes[a] != modes[c] or modes[b] != modes[d]:
                    continue
                new = {tuple(sorted((a, d))), tuple(sorted((c, b)))}
                if new & links:
                    continue
                after = links - {tuple(sorted((a, b))), tuple(sorted((c, d)))} | new
                if after not in reached:
                    reached.add(after)
                    waiting.append(after)
    return reached


class Collections(unittest.TestCase):
    def test_seats(self):
        self.assertEqual(seats((((0, (1,)), 2), ((1, (0, 0)), 1))), ((0, (1,)), (0, (1,)), (1, (0, 0))))
        self.assertEqual(seats(collection=((CUBIC, 1),)), (CUBIC,))

    def test_lowest(self):
        self.assertEqual(lowest((((0, (1,)), 8), ((1, (0, 0)), 12))), (((0, (1,)), 2), ((1, (0, 0)), 3)))
        self.assertEqual(lowest(collection=((CUBIC, 50),)), ((CUBIC, 1),))
        self.assertEqual(lowest((((0, ()), 6), ((1, ()), 10), ((2, ()), 15))), (((0, ()), 6), ((1, ()), 10), ((2, ()), 15)))

    def check(self, lot):
        most = max(len(view[1]) for view, _ in lot)
        bound = max(1, most * (most + 1))
        even = [1 if all(half(lot, a, a) * number % 2 == 0 for a in range(4)) else 0 for number in range(2)]
        for number in range(1, bound + 3):
            plain = plain_plan_fault(seats(copies(lot, number))) is None
            self.assertIs(is_good(lot, number), plain, (lot, number))
            if number >= bound:
                self.assertEqual(plain, bool(even[number % 2]))
        self.assertIs(is_good(lot, bound), True)
        for number in (999999, 1000000):
            self.assertIs(is_good(lot, number), bool(even[number % 2]))
        good = [number for number in range(1, bound + 3) if is_good(lot, number)]
        self.assertEqual(good_numbers(lot, bound + 2), tuple(good))
        self.assertEqual(least_good(lot), good[0])

    def test_good_numbers(self):
        rng = dice(19)
        # Here the few sites with many neighbours come behind those without any.
        self.check((((0, ()), 1), ((0, (1, 1)), 1), ((1, (0, 0)), 1)))
        self.check((((0, ()), 5), ((0, (0, 0)), 1)))
        self.check((((1, (2,)), 2), ((1, (2, 2, 2)), 1), ((2, ()), 9), ((2, (1,)), 1), ((2, (1, 1, 1, 1)), 1)))
        for lot in [((CUBIC, 1),), ((CUBIC, 2),), (((0, ()), 1),), (((0, (0, 0, 0, 0)), 1),), (((2, (2,)), 1), ((3, ()), 2))]:
            self.check(lot)
        for _ in range(25):
            modes, links = random_network_parts(rng, rng.choice((1, 2, 3)), rng.randint(1, 7))
            self.check(lowest(network_collection(Network(modes, links))))

    def test_good_numbers_by_hand(self):
        self.assertEqual(good_numbers(((CUBIC, 1),), 10), (4, 6, 8, 10))
        self.assertEqual(good_numbers(((CUBIC, 2),), 10), (2, 3, 4, 5, 6, 7, 8, 9, 10))
        self.assertEqual(good_numbers((((0, (0, 0)), 1),), 5), (3, 4, 5))
        self.assertEqual(good_numbers((((0, (0, 0, 0, 0)), 1),), 100), tuple(range(5, 101)))
        self.assertEqual(good_numbers(collection=((CUBIC, 1),), most=3), ())
        self.assertEqual(least_good(((CUBIC, 1),)), 4)
        self.assertEqual(least_good(((CUBIC, 4),)), 1)
        self.assertEqual(least_good(collection=(((0, ()), 1),)), 1)
        self.assertIs(is_good(((CUBIC, 1),), 1000000), True)
        self.assertIs(is_good(((CUBIC, 1),), 999999), False)
        self.assertIs(is_good(collection=((CUBIC, 1),), number=4), True)
        self.assertIs(is_good((((0, (1,)), 2), ((1, (0, 0)), 1)), 1), True)

    def test_a_hundred_sites(self):
        lot = (((0, ()), 59), ((0, (0, 1, 1, 1)), 1), ((1, (0,)), 3), ((2, (2, 2, 2, 2)), 37))
        for number in range(1, 101):
            self.assertIs(is_good(lot, number), number % 2 == 0 and number >= 2)
        self.assertEqual(good_numbers(lot, 100), tuple(range(2, 101, 2)))
        network = compact(lot)
        self.assertEqual(network_collection(network), copies(lot, 2))

    def test_compact(self):
        rng = dice(20)
        for _ in range(25):
            modes, links = random_network_parts(rng, rng.choice((1, 2, 3)), rng.randint(1, 8))
            lot = network_collection(Network(modes, links))
            network = compact(copies(lot, 3))
            found = network_collection(network)
            self.assertEqual(lowest(found), lowest(lot))
            number = sites(found) // sites(lowest(lot))
            self.assertLessEqual(len(network.modes), len(modes))
            for fewer in range(1, number):
                self.assertIsNotNone(plain_plan_fault(seats(copies(lowest(lot), fewer))))
        self.assertEqual(compact(((CUBIC, 7),)), Network([0] * 4, [(0, 1), (0, 2), (0, 3), (1, 2), (1, 3), (2, 3)]))
        self.assertEqual(len(compact(collection=(((0, (0, 0)), 100),)).modes), 3)

    def test_share_sizes(self):
        self.assertEqual(share_sizes(((CUBIC, 5),), 12), (4, 6, 8, 10, 12))
        self.assertEqual(share_sizes((((0, (1,)), 4), ((1, (0, 0)), 2)), 10), (3, 6, 9))
        self.assertEqual(share_sizes((((0, (0, 1)), 1), ((1, (0,)), 1)), 9), (4, 8))
        self.assertEqual(share_sizes(collection=(((0, ()), 9),), most=200), tuple(range(1, 201)))
        self.assertEqual(share_sizes((((0, (0, 0)), 1),), 2), ())
        self.assertEqual(share_sizes((((0, (1,)), 2), ((1, (0, 0)), 1)), 2), ())

    def test_unbalanced_is_refused(self):
        for lot in [(((0, (1,)), 1),), (((0, (1,)), 1), ((1, (0, 0)), 1)), (((2, (3,)), 2), ((3, (2,)), 1))]:
            for work in [lambda: is_good(lot, 1), lambda: good_numbers(lot, 5), lambda: least_good(lot), lambda: compact(lot),
                         lambda: share_sizes(lot, 9), lambda: share_sizes(lot, 1), lambda: is_good(lot, 1000000),
                         lambda: good_numbers(lot, 0)]:
                with self.assertRaises(Refused) as caught:
                    work()
                self.assertEqual(caught.exception.at, 0)
            self.assertEqual(len(seats(lot)), sites(lot))

    def test_nothing_is_changed(self):
        plan = [(0, (1,)), (1, (0,))]
        self.assertEqual(build(plan), Network([0, 1], [(0, 1)]))
        self.assertEqual((plan_fault(plan), fitting_count(plan), sure_links(plan)), (None, 1, ((0, 1),)))
        self.assertEqual(plan, [(0, (1,)), (1, (0,))])


if __name__ == "__main__":
    unittest.main()

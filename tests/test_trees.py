"""[85], [86]: trees, tree views and links, choices, grown and pumped trees."""

import unittest
from collections import Counter

from plain import ODD, Agreeable, Case, all_policies, dice, random_network_parts, random_policy_views, variations
from treewise import (branch_views_by, is_plain_tree, judge_choices, judge_road, obeying_tree, plain_tree_parts, rest_of,
                      road_views_by, small_trees)

from handalong.debts import least_choices
from handalong.errors import InvalidQuestion, InvalidView
from handalong.networks import Network
from handalong.policies import Policy
from handalong.trees import grown, is_choices, is_tree, pumped, tree_links, tree_views
from handalong.views import all_views


def tree_policies(seed, many):
    """Policies of at most three modes and twelve views; most have trees."""
    rng = dice(seed)
    for at in range(many):
        modes = at % 3 + 1
        most = 1 + at % 4
        views = random_policy_views(rng, modes, rng.randint(1, min((most + 1, 6, 10)[modes - 1], 10)), most)
        ends = [(a, (b,)) for a in range(modes) for b in range(modes)]
        views = sorted(set(views + rng.sample(ends, rng.randint(0, min(2, len(ends))))))
        yield rng, Policy(modes, views)


def some_choices(rng, policy):
    """Choices of a policy, by scores drawn at random."""
    return least_choices(policy, [rng.randint(0, 20) for _ in policy.views], (-1, 1))


def some_road(rng, policy, most=5):
    """A road, or None."""
    views = plain_tree_parts(policy)[0]
    for _ in range(60):
        road = [rng.choice(views) for _ in range(rng.randint(1, most))] if views else []
        if judge_road(policy, road):
            return road
    return None


class Trees(Case):
    def test_is_tree(self):
        rng = dice(851)
        kinds = set()
        for at in range(200):
            modes, links = random_network_parts(rng, at % 3 + 1, rng.randint(1, 7), tries=rng.randint(0, 9))
            told = is_tree(Network(modes, links))
            kinds.add((told, len(links) == len(modes) - 1))
            self.assertIs(told, is_plain_tree(modes, links))
        self.assertEqual(kinds, {(True, True), (False, True), (False, False)})
        self.assertIs(is_tree(network=Network([0], [])), True)
        self.assertIs(is_tree(Network([0] * 500, [(at, at + 1) for at in range(499)])), True)

    def test_views_and_links(self):
        sizes = set()
        for _, policy in tree_policies(852, 150):
            views, links = plain_tree_parts(policy)
            self.assertEqual((tree_views(policy), tree_links(policy)), (views, links))
            self.all_tuples((tree_views(policy), tree_links(policy)))
            self.assertTrue(all((b, a) in links for a, b in links))
            sizes.add((len(links) > 3, len(views) == len(policy.views), bool(views)))
            found = {view for tree in small_trees(policy, 7) for view in tree}
            self.assertLessEqual(found, set(views))
        self.assertGreaterEqual(len(sizes), 5)
        for policy, _ in all_policies(853, 60):
            views, links = plain_tree_parts(policy)
            self.assertEqual((tree_views(policy), tree_links(policy)), (views, links))

    def test_by_hand(self):
        policy = Policy(2, [(0, (1,)), (1, (0, 1)), (1, (1, 1))])
        self.assertEqual(tree_links(policy=policy), ((0, 1), (1, 0), (1, 1)))
        self.assertEqual(tree_views(policy=policy), policy.views)
        none = Policy(2, [(0, (1, 1)), (1, (0, 0))])
        self.assertEqual((tree_links(none), tree_views(none)), ((), ()))
        lone = Policy(2, [(0, ()), (1, (0,))])
        self.assertEqual((tree_links(lone), tree_views(lone)), ((), ((0, ()),)))
        # A branch (0, 1) can be cut off nothing: no branch (1, 0) grows.
        half = Policy(2, [(0, (1,)), (1, (0, 1, 1))])
        self.assertEqual((tree_links(half), tree_views(half)), ((), ()))
        path = Policy(1, [(0, (0,))])
        self.assertEqual((tree_links(path), tree_views(path)), (((0, 0),), ((0, (0,)),)))


class Choices(Case):
    def test_is_choices(self):
        kinds = set()
        for at, (rng, policy) in enumerate(tree_policies(861, 80)):
            views, links = plain_tree_parts(policy)
            told = some_choices(rng, policy)
            self.all_tuples(told)
            self.assertTrue(judge_choices(policy, told))
            self.assertIs(is_choices(policy, told), True)
            for _ in range(12):
                value = tuple((a, b, rng.choice([v for v in views if v[0] == a and b in v[1]])) for a, b in links)
                right = judge_choices(policy, value)
                kinds.add(right)
                self.assertIs(is_choices(policy, value), right)
            for value in ODD + [list(told), told + ((0, 0, (0, (0,))),)]:
                self.assertIs(is_choices(policy, value), False)
            if at % 8 == 0:
                for value in variations(told):
                    self.assertIs(is_choices(policy, value), judge_choices(policy, value), value)
        self.assertEqual(kinds, {True, False})
        self.assertIs(is_choices(policy=Policy(1, []), value=()), True)
        self.assertIs(is_choices(Policy(1, []), []), False)

    def test_grown(self):
        done = 0
        for rng, policy in tree_policies(862, 80):
            views, links = plain_tree_parts(policy)
            told = some_choices(rng, policy)
            for view in views:
                tree = grown(policy, told, view)
                done += 1
                self.assertTrue(obeying_tree(policy, tree))
                self.assertEqual(tree.view(0), view)
                wanted = [view]
                for x in view[1]:
                    wanted += branch_views_by(told, x, view[0])
                self.assertEqual(Counter(tree.site_views()), Counter(wanted))
                self.check_branches(tree, told)
            wrong = [view for view in policy.views if view not in views]
            for value in ODD + wrong + [(0, [0]), [0, (0,)], (9, ()), (False, ())]:
                self.refused(InvalidView, 0, lambda: grown(policy, told, value))
            for value in ODD + [list(told)] + ([()] if links else [(None,)]):
                self.refused(InvalidQuestion, 1, lambda: grown(policy, value, None))
                self.refused(InvalidQuestion, 1, lambda: pumped(policy, value, None, 1))
        self.assertGreater(done, 100)

    def check_branches(self, tree, choices, row=1):
        """That each site further off than the first ones has the chosen view for its mode and that of the one before."""
        table = {entry[:2]: entry[2] for entry in choices}
        before = {at: None for at in range(row)}
        waiting = list(before)
        while waiting:
            site = waiting.pop()
            for other in tree.neighbours(site):
                if other not in before:
                    before[other] = site
                    self.assertEqual(tree.view(other), table[tree.modes[other], tree.modes[site]])
                    waiting.append(other)

    def test_pumped(self):
        done = 0
        for rng, policy in tree_policies(863, 120):
            road = some_road(rng, policy)
            if road is None:
                continue
            told = some_choices(rng, policy)
            for times in (1, 2, 3):
                tree = pumped(policy, told, tuple(road) if times == 2 else road, times)
                done += 1
                self.assertTrue(obeying_tree(policy, tree))
                beside = road_views_by(road, told) * times
                beside += branch_views_by(told, road[-1][0], road[0][0]) + branch_views_by(told, road[0][0], road[-1][0])
                self.assertEqual(Counter(tree.site_views()), Counter(beside))
                self.assertIn(list(road) * times, self.rows(tree, len(road) * times, road[0]))
        self.assertGreater(done, 60)

    def rows(self, tree, length, first):
        """The views along all ways of some length in a tree that begin with a view."""
        found = [[site] for site in range(len(tree.modes)) if tree.view(site) == first]
        for _ in range(length - 1):
            found = [row + [other] for row in found for other in tree.neighbours(row[-1]) if other not in row[-2:]]
        return [[tree.view(site) for site in row] for row in found]

    def test_roads(self):
        policy = Policy(2, [(0, (1,)), (1, (0,)), (1, (0, 1)), (1, (1, 1)), (0, (0, 1, 1))])
        told = some_choices(dice(864), policy)
        good = [[(1, (1, 1))], [(0, (0, 1, 1)), (1, (0, 1)), (1, (1, 1)), (1, (0, 1))], ((0, (0, 1, 1)), (1, (0, 1)), (1, (0, 1)))]
        for road in good:
            self.assertTrue(judge_road(policy, road))
            self.assertTrue(obeying_tree(policy, pumped(policy=policy, choices=told, road=road, times=4)))
        for road in ODD + [[], (), [(0, (1,))], [(1, (0, 1))], [(1, (1, 1)), (0, (0, 1, 1))], [(1, (1, 1)), None], [(1, [1, 1])],
                           [[1, (1, 1)]], [(0, (0, 1, 1))], [(1, (True, 1))], [(0, ())], [Agreeable()], {(1, (1, 1)): 0}]:
            self.assertFalse(judge_road(policy, road))
            self.refused(InvalidQuestion, 2, lambda: pumped(policy, told, road, 1))
        lone = Policy(1, [(0, ())])
        self.assertEqual(grown(policy=lone, choices=(), view=(0, ())), Network([0], []))
        self.refused(InvalidQuestion, 2, lambda: pumped(lone, (), [(0, ())], 1))
        self.assertEqual(rest_of((1, (0, 1, 1)), [1, 1]), [0])

    def test_long(self):
        policy = Policy(1, all_views(1, 1) + all_views(1, 4))
        told = some_choices(dice(865), policy)
        tree = pumped(policy, told, [(0, (0, 0, 0, 0))], 3000)
        self.assertEqual(len(tree.modes), 9002)
        self.assertIs(is_tree(tree), True)
        self.assertTrue(obeying_tree(policy, pumped(policy, told, [(0, (0, 0, 0, 0))], 100)))


if __name__ == "__main__":
    unittest.main()

"""[87], [88]: debts of branches, roads and trees, floors, numbers of sites, means of trees."""

import unittest
from fractions import Fraction

from plain import ODD, Agreeable, Case, dice, fraction, pair, strict_fraction, told, variations, walked_views
from test_trees import some_choices, some_road, tree_policies
from treewise import (branch_views_by, debt_of, judge_choices, judge_debts, judge_road, obeying_tree, plain_debts,
                      plain_tree_parts, road_views_by, small_trees)

from handalong.debts import (branch_debts, fewest_sites, is_debt_evidence, is_tree_mean, least_choices, least_debts,
                             least_tree, link_floors, most_sites, tree_mean, view_floors)
from handalong.errors import InvalidQuestion
from handalong.means import least_mean
from handalong.policies import Policy
from handalong.transfers import sent
from handalong.trees import pumped


def judge_mean_of_trees(policy, scores, value):
    """Whether any value is right evidence of [88]."""
    views, _ = plain_tree_parts(policy)
    if told(value, "none", 1):
        return not views
    if told(value, "few", 2):
        sizes = plain_debts(policy, [-1] * len(policy.views), 0)
        return bool(views) and sizes is not None and type(value[1]) is int and value[1] == -min(sizes[1])
    if not told(value, "mean", 6) or not strict_fraction(value[1]):
        return False
    _, c, table, extra, road, choices = value
    if not judge_debts(policy, scores, fraction(c), ("debts", table, extra)):
        return False
    if not judge_road(policy, road) or not judge_choices(policy, choices):
        return False
    return debt_of(policy, scores, fraction(c), road_views_by(road, choices)) == 0


def cases(seed, many):
    for rng, policy in tree_policies(seed, many):
        scores = [rng.randint(-9, 9) for _ in policy.views]
        for limit in (Fraction(rng.randint(-12, 12), rng.choice((1, 2, 3))), Fraction(-20)):
            yield rng, policy, scores, limit


class Debts(Case):
    def test_random_policies(self):
        kinds = set()
        for at, (rng, policy, scores, limit) in enumerate(cases(871, 110)):
            views, links = plain_tree_parts(policy)
            plain = plain_debts(policy, scores, limit)
            answer = least_debts(policy, scores, pair(limit))
            kinds.add((answer[0], bool(views), bool(links)))
            self.all_tuples(answer)
            self.assertEqual(answer[0], "pump" if plain is None else "debts")
            self.assertTrue(judge_debts(policy, scores, limit, answer), (policy.views, scores, limit, answer))
            self.assertIs(is_debt_evidence(policy, scores, pair(limit), answer), True)
            if plain is None:
                for work in (least_choices, view_floors, link_floors, least_tree):
                    self.assertIsNone(work(policy, scores, pair(limit)))
                continue
            debts, wholes = plain
            self.assertEqual(answer[1], tuple((a, b, pair(debts[a, b])) for a, b in links))
            self.assertEqual(answer[2], pair(min(wholes)) if views else None)
            self.check_floors(policy, scores, limit, dict(zip(views, wholes)), debts)
            self.check_small(policy, scores, limit, answer[2])
        self.assertLessEqual({("pump", True, True), ("debts", True, True), ("debts", True, False), ("debts", False, False)}, kinds)

    def check_floors(self, policy, scores, limit, wholes, debts):
        told_floors = view_floors(policy, scores, pair(limit))
        self.all_tuples(told_floors)
        self.assertEqual(told_floors, tuple(pair(wholes[view]) if view in wholes else None for view in policy.views))
        links = tuple((a, b, pair(debts[a, b] + debts[b, a])) for a, b in sorted(debts) if a <= b)
        self.assertEqual(link_floors(policy, scores, pair(limit)), links)
        choices = least_choices(policy, scores, pair(limit))
        self.assertTrue(judge_choices(policy, choices))
        for a, b, _ in choices:
            self.assertEqual(debt_of(policy, scores, limit, branch_views_by(choices, a, b)), debts[a, b])
        if not wholes:
            self.without_network(lambda: least_tree(policy, scores, pair(limit)))
            return
        tree = least_tree(policy, scores, pair(limit))
        self.assertTrue(obeying_tree(policy, tree))
        self.assertEqual(debt_of(policy, scores, limit, walked_views(tree.modes, tree.links)), min(wholes.values()))

    def check_small(self, policy, scores, limit, extra):
        """No small tree has a lesser debt; those of few sites are all there."""
        trees = small_trees(policy, 6)
        for tree in trees:
            self.assertGreaterEqual(debt_of(policy, scores, limit, tree), fraction(extra))

    def test_evidence(self):
        """Other debts, roads and choices than the told ones."""
        rights = set()
        for at, (rng, policy, scores, limit) in enumerate(cases(872, 60)):
            ratio = pair(limit)
            answer = least_debts(policy, scores, ratio)
            values = list(ODD)
            if answer[0] == "debts" and answer[2] is not None:
                lower = tuple((a, b, pair(fraction(debt) + rng.choice((0, 0, 1, -1)))) for a, b, debt in answer[1])
                values += [("debts", lower, pair(fraction(answer[2]) - k)) for k in (-1, 0, 3)]
                values += [("debts", answer[1], None), ("debts", list(answer[1]), answer[2])]
            road = some_road(rng, policy)
            if road is not None:
                values += [("pump", road, some_choices(rng, policy)), ("pump", tuple(road), some_choices(rng, policy)),
                           ("pump", road, ()), ("pump", road[1:], some_choices(rng, policy))]
            if at % 10 == 0:
                values += list(variations(answer))
            for value in values:
                right = judge_debts(policy, scores, limit, value)
                if type(value) is tuple and value:
                    rights.add((str(value[0]), right))
                self.assertIs(is_debt_evidence(policy, scores, ratio, value), right, value)
        self.assertLessEqual({("debts", True), ("debts", False), ("pump", True), ("pump", False)}, rights)

    def test_transfers_are_evidence(self):
        done = 0
        for rng, policy, scores, _ in cases(873, 60):
            answer = least_mean(policy, scores)
            links = plain_tree_parts(policy)[1]
            if links and answer[0] == "mean":
                done += 1
                table = tuple((a, b, sent(answer[3], a, b)) for a, b in links)
                self.assertIs(is_debt_evidence(policy, scores, answer[1], ("debts", table, (0, 1))), True)
                self.assertEqual(least_debts(policy, scores, answer[1])[0], "debts")
        self.assertGreater(done, 30)

    def test_branch_debts(self):
        done = 0
        for rng, policy, scores, limit in cases(874, 50):
            choices = some_choices(rng, policy)
            answer = branch_debts(policy, scores, pair(limit), choices)
            self.all_tuples(answer)
            wanted = [(a, b, pair(debt_of(policy, scores, limit, branch_views_by(choices, a, b)))) for a, b, _ in choices]
            self.assertEqual(answer, tuple(wanted))
            done += len(answer)
            for value in ODD + [list(choices), choices + (None,)]:
                self.refused(InvalidQuestion, 3, lambda: branch_debts(policy, scores, pair(limit), value))
        self.assertGreater(done, 100)

    def test_by_hand(self):
        policy = Policy(2, [(0, (1,)), (1, (0, 1)), (1, (1, 1))])
        answer = ("debts", ((0, 1, (3, 1)), (1, 0, (1, 1)), (1, 1, (2, 1))), (4, 1))
        self.assertEqual(least_debts(policy=policy, scores=[5, 1, 2], limit=(2, 1)), answer)
        self.assertIs(is_debt_evidence(policy=policy, scores=[5, 1, 2], limit=(2, 1), value=answer), True)
        self.assertIs(is_debt_evidence(policy, [5, 1, 2], (2, 1), answer[:2] + ((7, 2),)), True)
        self.assertIs(is_debt_evidence(policy, [5, 1, 2], (2, 1), answer[:2] + ((5, 1),)), False)
        pump = least_debts(policy, [5, 1, 2], (5, 2))
        self.assertEqual((pump[0], pump[1]), ("pump", ((1, (1, 1)),)))
        self.assertEqual(least_tree(policy=policy, scores=[5, 1, 2], limit=(2, 1)).modes.count(0), 2)
        self.assertEqual(view_floors(policy=policy, scores=[5, 1, 2], limit=(2, 1)), ((4, 1),) * 3)
        self.assertEqual(link_floors(policy=policy, scores=[5, 1, 2], limit=(2, 1)), ((0, 1, (4, 1)), (1, 1, (4, 1))))
        choices = least_choices(policy=policy, scores=[5, 1, 2], limit=(2, 1))
        self.assertEqual(branch_debts(policy=policy, scores=[5, 1, 2], limit=(2, 1), choices=choices), answer[1])
        none = Policy(2, [(0, (1, 1)), (1, (0, 0))])
        self.assertEqual(least_debts(none, [1, 2], (0, 1)), ("debts", (), None))
        self.assertEqual((view_floors(none, [1, 2], (0, 1)), link_floors(none, [1, 2], (0, 1))), ((None, None), ()))
        self.assertEqual(least_choices(none, [1, 2], (9, 1)), ())
        self.without_network(lambda: least_tree(none, [1, 2], (9, 1)))
        for extra in ((0, 1), False, 0):
            self.assertIs(is_debt_evidence(none, [1, 2], (0, 1), ("debts", (), extra)), False)
        lone = Policy(1, [(0, ())])
        self.assertEqual(least_debts(lone, [3], (1, 2)), ("debts", (), (5, 2)))
        self.assertEqual(least_tree(lone, [3], (1, 2)).modes, (0,))

    def test_scores(self):
        for policy in (Policy(2, [(0, (1,)), (1, (0, 1)), (1, (1, 1))]), Policy(1, []), Policy(2, [(0, (1, 1)), (1, (0, 0))])):
            limit = (0, 1)
            for work in (least_debts, least_choices, least_tree, view_floors, link_floors):
                self.refuses_scores(policy, lambda value: work(policy, value, limit))
            self.refuses_scores(policy, lambda value: branch_debts(policy, value, limit, None))
            self.refuses_scores(policy, lambda value: is_debt_evidence(policy, value, limit, None))
            self.refuses_scores(policy, lambda value: tree_mean(policy, value))
            self.refuses_scores(policy, lambda value: is_tree_mean(policy, value, None))


class Means(Case):
    def test_sites(self):
        kinds = set()
        for rng, policy in tree_policies(881, 150):
            views, _ = plain_tree_parts(policy)
            few, many = fewest_sites(policy), most_sites(policy)
            sizes = {len(tree) for tree in small_trees(policy, 7)}
            plain = plain_debts(policy, [-1] * len(policy.views), 0)
            kinds.add("none" if not views else many is None)
            if not views:
                self.assertEqual((few, many, sizes), (0, 0, set()))
                continue
            self.assertEqual(few, min(plain_debts(policy, [1] * len(policy.views), 0)[1]))
            self.assertEqual(many, None if plain is None else -min(plain[1]))
            self.assertEqual(min(sizes, default=8), few if few < 8 else 8)
            if many is not None:
                self.assertIs(type(many), int)
                self.assertEqual(max(sizes, default=0), many if many < 8 else max(sizes, default=0))
        self.assertEqual(kinds, {"none", True, False})
        self.assertEqual((fewest_sites(policy=Policy(1, [])), most_sites(policy=Policy(1, []))), (0, 0))

    def test_random_policies(self):
        words = set()
        for at, (rng, policy, scores, _) in enumerate(cases(882, 90)):
            answer = tree_mean(policy, scores)
            words.add(answer[0])
            self.all_tuples(answer)
            self.assertTrue(judge_mean_of_trees(policy, scores, answer), (policy.views, scores, answer))
            self.assertIs(is_tree_mean(policy, scores, answer), True)
            self.assertEqual(answer[0] == "none", not plain_tree_parts(policy)[0])
            self.assertEqual(answer[0] == "mean", most_sites(policy) is None)
            for value in ODD + [("none",), ("few", 0), ("few", 1), ("few", 2), ("few", True), ("few", None), ("few", 4)]:
                self.assertIs(is_tree_mean(policy, scores, value), judge_mean_of_trees(policy, scores, value))
            if answer[0] == "mean":
                c = fraction(answer[1])
                least, wholes = plain_debts(policy, scores, c)
                self.assertEqual(answer[3], pair(min(wholes)))
                self.assertIsNone(plain_debts(policy, scores, c + Fraction(1, 10 ** 9)))
                self.check_pumped(policy, scores, answer)
                road = some_road(rng, policy)
                value = answer[:4] + (road, some_choices(rng, policy))
                self.assertIs(is_tree_mean(policy, scores, value), judge_mean_of_trees(policy, scores, value))
                self.assertIs(is_tree_mean(policy, scores, answer[:4] + (list(answer[4]), answer[5])), True)
            if at % 12 == 0:
                for value in variations(answer):
                    self.assertIs(is_tree_mean(policy, scores, value), judge_mean_of_trees(policy, scores, value), value)
        self.assertEqual(words, {"none", "few", "mean"})

    def check_pumped(self, policy, scores, answer):
        """The means of longer and longer trees come near to c, and stay above what is told."""
        _, c, _, extra, road, choices = answer
        last = None
        for times in (1, 4, 16):
            tree = pumped(policy, choices, road, times)
            views = tree.site_views()
            total = debt_of(policy, scores, Fraction(0), views)
            self.assertGreaterEqual(total, fraction(c) * len(views) + fraction(extra))
            apart = total / len(views) - fraction(c)
            if last is not None:
                self.assertLessEqual(abs(apart), abs(last))
            last = apart

    def test_by_hand(self):
        policy = Policy(2, [(0, (1,)), (1, (0, 1)), (1, (1, 1))])
        answer = tree_mean(policy=policy, scores=[5, 1, 2])
        self.assertEqual(answer[:5], ("mean", (2, 1), ((0, 1, (3, 1)), (1, 0, (1, 1)), (1, 1, (2, 1))), (4, 1), ((1, (1, 1)),)))
        self.assertIs(is_tree_mean(policy=policy, scores=[5, 1, 2], value=answer), True)
        self.assertEqual(tree_mean(Policy(1, [(0, ())]), [3]), ("few", 1))
        self.assertEqual(tree_mean(Policy(1, [(0, (0,))]), [3]), ("few", 2))
        self.assertEqual(tree_mean(Policy(1, [(0, (0, 0))]), [3]), ("none",))
        self.assertIs(is_tree_mean(Policy(1, [(0, (0, 0))]), [3], ("few", 0)), False)
        self.assertIs(is_tree_mean(Policy(1, [(0, ())]), [3], Agreeable()), False)
        self.assertEqual((fewest_sites(policy), most_sites(policy)), (4, None))
        self.assertEqual(dice(0).randint(0, 0), 0)


if __name__ == "__main__":
    unittest.main()

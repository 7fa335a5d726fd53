"""[30] to [32]: one mean, kept sums, sums by modes."""

import unittest
from fractions import Fraction

from judges import in_modes, judge_nought, judge_one, judge_weights, plain_live
from plain import (ODD, Agreeable, Case, all_policies, dice, fraction, pair, plain_crossings, plain_elements, plain_mean,
                   plain_sends, plain_total, rank, variations)

from handalong.collected import copies, joined
from handalong.kept import (is_mean_evidence, is_nought_evidence, is_weights_evidence, leading_views, mean_evidence,
                            mode_laws, nought_evidence, pinned_modes, plain_scores, same_sums, weights_evidence)
from handalong.policies import Policy
from handalong.views import all_views


def sent_scores(rng, policy, most=3):
    """Scores that are what views send by some integers, so that each network's sum is 0."""
    transfer = tuple((rng.randint(-most, most), 1) for _ in range(policy.modes * (policy.modes - 1) // 2))
    return tuple(int(plain_sends(policy.modes, transfer, view)) for view in policy.views)


def kept_scores(rng, policy, scores, live):
    """Scores of several kinds: any, of one mean, of the sum 0, by modes; dead views have any."""
    sent = sent_scores(rng, policy)
    c = rng.randint(-5, 5)
    modes = [rng.randint(-3, 3) for _ in range(policy.modes)]
    told = [scores, sent, [c + x for x in sent], [modes[view[0]] + x for view, x in zip(policy.views, sent)],
            [0] * len(scores)]
    return [tuple(x if view in live else y for view, x, y in zip(policy.views, row, scores)) for row in told]


class Means(Case):
    def test_random_policies(self):
        rng = dice(301)
        words = set()
        for policy, scores in all_policies(301, 70):
            lots = plain_elements(policy)
            live = plain_live(policy)
            if not lots:
                self.without_network(lambda: mean_evidence(policy, scores))
                self.without_network(lambda: is_mean_evidence(policy, scores, None))
                continue
            for row in kept_scores(rng, policy, scores, live):
                means = {plain_mean(policy, row, lot) for lot in lots}
                answer = mean_evidence(policy, row)
                words.add(answer[0])
                self.assertEqual(answer[0], "one" if len(means) == 1 else "two")
                if len(means) == 1:
                    self.assertEqual(answer[1], pair(min(means)))
                self.assertTrue(judge_one(policy, row, live, answer), answer)
                self.assertIs(is_mean_evidence(policy, list(row), answer), True)
                self.all_tuples(answer)
                for one in lots[:3]:
                    for other in lots[-3:]:
                        value = ("two", one, joined(one, copies(other, 2)))
                        self.assertIs(is_mean_evidence(policy, row, value), judge_one(policy, row, live, value))
                if rng.random() < 0.2:
                    for value in variations(answer):
                        self.assertIs(is_mean_evidence(policy, row, value), judge_one(policy, row, live, value), value)
        self.assertEqual(words, {"one", "two"})

    def test_by_hand(self):
        policy = Policy(2, [(0, (1,)), (1, (0, 0))])
        self.assertEqual(mean_evidence(policy, [1, 4]), ("one", (2, 1), ((-1, 1),)))
        self.assertIs(is_mean_evidence(policy, [1, 5], ("one", (2, 1), ((-1, 1),))), False)
        path = Policy(2, [(0, (1,)), (1, (0, 0)), (0, (0,))])
        self.assertEqual(mean_evidence(policy=path, scores=[2, 1, 4])[0], "one")
        self.assertIs(is_mean_evidence(path, [2, 1, 4], ("one", (2, 1), ((-1, 1),))), True)
        self.assertIs(is_mean_evidence(policy=path, scores=[2, 1, 4], value=("one", (2, 1), ((-1, 2),))), False)
        low, high = (((0, (0,)), 1),), (((0, (1,)), 2), ((1, (0, 0)), 1))
        self.assertEqual(mean_evidence(path, [2, 2, 4]), ("two", low, high))
        self.assertIs(is_mean_evidence(path, [2, 2, 4], ("two", high, low)), False)
        self.assertIs(is_mean_evidence(path, [2, 1, 4], ("two", low, high)), False)


class Pinned(Case):
    def test_random_policies(self):
        seen = set()
        for policy, _ in all_policies(302, 100):
            lots = plain_elements(policy)
            if not lots:
                self.without_network(lambda: pinned_modes(policy))
                continue
            found = []
            for mode in range(policy.modes):
                shares = {Fraction(in_modes(policy.modes, lot)[mode], sum(in_modes(policy.modes, lot))) for lot in lots}
                if len(shares) == 1:
                    found.append((mode, pair(min(shares))))
            self.assertEqual(pinned_modes(policy), tuple(found))
            seen |= {share for _, share in found}
        self.assertGreater(len(seen), 3)

    def test_by_hand(self):
        self.assertEqual(pinned_modes(Policy(3, [(0, (1,)), (1, (0, 0))])), ((0, (2, 3)), (1, (1, 3)), (2, (0, 1))))
        self.assertEqual(pinned_modes(policy=Policy(2, [(0, ()), (1, ())])), ())
        self.assertEqual(pinned_modes(Policy(1, [(0, (0, 0))])), ((0, (1, 1)),))
        self.without_network(lambda: pinned_modes(Policy(4, [])))


class Nought(Case):
    def test_random_policies(self):
        rng = dice(311)
        words = set()
        for policy, scores in all_policies(311, 80):
            lots = plain_elements(policy)
            live = plain_live(policy)
            for row in kept_scores(rng, policy, scores, live):
                answer = nought_evidence(policy, row)
                none = all(plain_total(policy, row, lot) == 0 for lot in lots)
                words.add((answer[0], bool(lots)))
                self.assertEqual((len(answer), answer[0]), (2, "nought" if none else "network"))
                self.assertTrue(judge_nought(policy, row, live, answer), answer)
                self.assertIs(is_nought_evidence(policy, row, answer), True)
                self.all_tuples(answer)
                for lot in lots[:5]:
                    value = ("network", lot)
                    self.assertIs(is_nought_evidence(policy, row, value), judge_nought(policy, row, live, value))
                if rng.random() < 0.2:
                    for value in variations(answer):
                        self.assertIs(is_nought_evidence(policy, row, value), judge_nought(policy, row, live, value), value)
        self.assertEqual(words, {("nought", True), ("nought", False), ("network", True)})

    def test_by_hand(self):
        path = Policy(2, [(0, (1,)), (1, (0, 0)), (1, (1, 1))])
        self.assertEqual(nought_evidence(path, [3, -6, 0]), ("nought", ((3, 1),)))
        self.assertEqual(nought_evidence(path, [0, 0, 5]), ("network", (((1, (1, 1)), 1),)))
        # The least mean is 0, the greatest one is not.
        self.assertEqual(nought_evidence(policy=path, scores=[0, 0, 5])[0], "network")
        self.assertEqual(nought_evidence(path, [0, 0, -5])[0], "network")
        none = Policy(2, [(0, (1,))])
        self.assertEqual(nought_evidence(none, [7])[0], "nought")
        self.assertIs(is_nought_evidence(none, [7], ("nought", ((0, 1),))), True)
        self.assertIs(is_nought_evidence(policy=none, scores=[7], value=("nought", ())), False)


class Plain(Case):
    def test_leading_views(self):
        for policy, _ in all_policies(312, 120):
            live = plain_live(policy)
            rows = [plain_crossings(policy.modes, view) for view in live]
            ranks = [rank(rows[:k]) for k in range(len(rows) + 1)]
            self.assertEqual(leading_views(policy), tuple(v for k, v in enumerate(live) if ranks[k + 1] > ranks[k]))

    def test_plain_scores(self):
        rng = dice(313)
        for policy, scores in all_policies(313, 80):
            lots = plain_elements(policy)
            live = plain_live(policy)
            leading = leading_views(policy)
            for row in kept_scores(rng, policy, scores, live):
                told = plain_scores(policy, row)
                self.all_tuples(told)
                self.assertEqual(len(told), len(policy.views))
                values = {view: fraction(x) for view, x in zip(policy.views, told)}
                self.assertTrue(all(pair(fraction(x)) == x for x in told))
                self.assertTrue(all(values[view] == 0 for view in policy.views if view not in live or view in leading))
                # The difference is sent: it is 0 on all balanced collections of live views, so a transfer tells it.
                for lot in lots:
                    total = sum(values[view] * count for view, count in lot)
                    self.assertEqual(total, plain_total(policy, row, lot))
                other = [x + y for x, y in zip(row, sent_scores(rng, policy))]
                other = [x if view in live else 7 for view, x in zip(policy.views, other)]
                self.assertEqual(plain_scores(policy, other), told)
                self.assertIs(same_sums(policy, row, other), True)
                nought = all(plain_total(policy, row, lot) == 0 for lot in lots)
                self.assertIs(same_sums(policy, row, [0] * len(row)), nought)
                changed = [x + rng.randint(0, 1) for x in row]
                same = all(plain_total(policy, row, lot) == plain_total(policy, changed, lot) for lot in lots)
                self.assertIs(same_sums(policy, changed, row), same)

    def test_by_hand(self):
        policy = Policy(2, [(0, ()), (0, (1,)), (0, (1, 1)), (1, (0,)), (1, (1,))])
        self.assertEqual(leading_views(policy), ((0, (1,)),))
        self.assertEqual(plain_scores(policy, [5, 1, 3, 2, 4]), ((5, 1), (0, 1), (1, 1), (3, 1), (4, 1)))
        self.assertEqual(plain_scores(policy=policy, scores=[0, 2, 0, 0, 0])[2:4], ((-4, 1), (2, 1)))
        self.assertIs(same_sums(policy=policy, one=[0, 2, 4, -2, 0], other=(0,) * 5), True)
        none = Policy(2, [(0, (1,))])
        self.assertEqual((leading_views(none), plain_scores(none, [3])), ((), ((0, 1),)))
        self.assertIs(same_sums(none, [3], [4]), True)
        two = Policy(2, [(0, (0, 1, 1)), (0, (1, 1, 1)), (1, (0,))])
        self.assertEqual(plain_scores(two, [1, 0, 0]), ((0, 1), (-3, 2), (1, 2)))


class Laws(Case):
    def check_laws(self, policy, lots):
        rows = mode_laws(policy)
        self.checks_basis(rows, policy.modes, [in_modes(policy.modes, lot) for lot in lots])
        return rows

    def test_mode_laws(self):
        seen = set()
        for policy, _ in all_policies(321, 140):
            seen.add(len(self.check_laws(policy, plain_elements(policy))))
        self.assertLessEqual({0, 1, 2, 3}, seen)

    def test_weights(self):
        rng = dice(322)
        words = set()
        for policy, scores in all_policies(322, 80):
            lots = plain_elements(policy)
            live = plain_live(policy)
            for row in kept_scores(rng, policy, scores, live):
                answer = weights_evidence(policy, row)
                counts = [in_modes(policy.modes, lot) for lot in lots]
                totals = [[plain_total(policy, row, lot)] for lot in lots]
                by_modes = rank(counts) == rank([a + b for a, b in zip(counts, totals)])
                words.add((answer[0], bool(lots)))
                self.assertEqual((len(answer), answer[0]), (3, "weights" if by_modes else "two"))
                self.assertTrue(judge_weights(policy, row, live, answer), answer)
                self.assertIs(is_weights_evidence(policy, row, answer), True)
                self.all_tuples(answer)
                for other in lots[:4]:
                    for one in lots[-4:]:
                        for value in (("two", one, other), ("two", joined(one, other), copies(one, 2)), ("two", one, one)):
                            self.assertIs(is_weights_evidence(policy, row, value), judge_weights(policy, row, live, value))
                if rng.random() < 0.2:
                    for value in variations(answer):
                        self.assertIs(is_weights_evidence(policy, row, value), judge_weights(policy, row, live, value), value)
        self.assertEqual(words, {("weights", True), ("weights", False), ("two", True)})

    def test_many_views(self):
        rng = dice(323)
        policy = Policy(3, [view for degree in range(5) for view in all_views(3, degree)])
        scores = [rng.randint(-1000, 1000) for _ in policy.views]
        answer = weights_evidence(policy, scores)
        self.assertEqual(answer[0], "two")
        self.assertTrue(judge_weights(policy, scores, policy.views, answer))
        self.assertEqual(mode_laws(policy), ())
        self.assertIs(same_sums(policy, scores, [x + y for x, y in zip(scores, sent_scores(rng, policy))]), True)

    def test_by_hand(self):
        path = Policy(3, [(0, (1,)), (1, (0, 0))])
        self.assertEqual(mode_laws(path), (((1, 1), (-2, 1), (0, 1)), ((0, 1), (0, 1), (1, 1))))
        self.assertEqual(mode_laws(policy=Policy(2, [])), (((1, 1), (0, 1)), ((0, 1), (1, 1))))
        self.assertEqual(mode_laws(Policy(2, [(0, ()), (1, ())])), ())
        wide = Policy(2, [(0, ()), (0, (0,))])
        answer = weights_evidence(wide, [1, 2])
        self.assertTrue(judge_weights(wide, [1, 2], wide.views, answer))
        self.assertEqual(answer[0], "two")
        self.assertEqual(weights_evidence(policy=wide, scores=[2, 2]), ("weights", ((2, 1), (0, 1)), ((0, 1),)))
        self.assertIs(is_weights_evidence(wide, [2, 2], ("weights", ((2, 1), (9, 4)), ((1, 3),))), True)
        self.assertIs(is_weights_evidence(wide, [2, 2], ("weights", ((2, 1),), ((1, 3),))), False)
        self.assertIs(is_weights_evidence(policy=wide, scores=[2, 2], value=("weights", ((3, 1), (9, 4)), ((1, 3),))), False)


class Errors(Case):
    def test_scores_come_first(self):
        for policy in (Policy(2, [(0, (1,))]), Policy(2, [(0, (1,)), (1, (0,))]), Policy(1, [])):
            for work in (lambda value: mean_evidence(policy, value), lambda value: is_mean_evidence(policy, value, None),
                         lambda value: nought_evidence(policy, value), lambda value: is_nought_evidence(policy, value, None),
                         lambda value: plain_scores(policy, value), lambda value: same_sums(policy, value, None),
                         lambda value: same_sums(policy, [1] * len(policy.views), value),
                         lambda value: weights_evidence(policy, value),
                         lambda value: is_weights_evidence(policy, value, None)):
                self.refuses_scores(policy, work)

    def test_one_is_checked_first(self):
        policy = Policy(2, [(0, (1,)), (1, (0,))])
        with self.assertRaises(Exception) as caught:
            same_sums(policy, [1, None], [None, 1])
        self.assertEqual(caught.exception.at, 1)

    def test_no_evidence(self):
        policy = Policy(2, [(0, (1,)), (1, (0,))])
        for value in ODD + [(), [], 3, ("one",), ("two", 1, 2), ("weights", None, None), ("nought", None), ("network", None),
                            ("one", None, None), ("one", Agreeable(), Agreeable()), ("two", Agreeable(), Agreeable())]:
            for work in (is_mean_evidence, is_nought_evidence, is_weights_evidence):
                self.assertIs(work(policy, [0, 0], value), False)

    def test_nothing_is_changed(self):
        policy = Policy(2, [(0, (1,)), (1, (0,)), (1, (1,))])
        scores = [1, 2, 3]
        for work in (mean_evidence, nought_evidence, plain_scores, weights_evidence):
            work(policy, scores)
        same_sums(policy, scores, scores)
        self.assertEqual(scores, [1, 2, 3])


if __name__ == "__main__":
    unittest.main()

"""[43], [44]: low elements, bans and their reasons, cheapest and best bans, least blocks, least meetings."""

import unittest
from fractions import Fraction
from itertools import combinations

from judges_more import judge_ban_evidence
from plain import (ODD, Case, dice, fraction, is_told_collection, is_told_transfer, pair, plain_elements, plain_mean,
                   variations)
from test_elementary import chapter_policies, refuses_lots

from handalong.elementary import all_elements
from handalong.errors import InvalidView
from handalong.forbidding import (ban_evidence, ban_reasons, best_ban, cheapest_ban, is_ban, is_ban_evidence, least_bans,
                                  least_blocks, least_meeting, low_elements)
from handalong.policies import Policy


def lot_of(collection):
    return tuple(view for view, _ in collection)


def subsets(views):
    return [lot for size in range(len(views) + 1) for lot in combinations(views, size)]


def least_hitting(views, lots, keep=()):
    """All least lots of views with one of each lot, by trying all."""
    hitting = [lot for lot in subsets(views) if all(set(lot) & set(other) for other in lots)]
    least = [lot for lot in hitting if not any(set(other) < set(lot) for other in hitting)]
    return tuple(sorted(lot for lot in least if not set(lot) & set(keep)))


def cases(seed, many):
    """Policies with scores, limits among and around the means, and some views to keep."""
    rng = dice(seed)
    for policy in chapter_policies(seed, many):
        scores = [rng.randint(-3, 3) for _ in policy.views]
        known = sorted(plain_elements(policy))
        means = sorted(plain_mean(policy, scores, lot) for lot in known) or [Fraction(0)]
        keep = rng.sample(policy.views, rng.randint(0, min(2, len(policy.views))))
        limits = [pair(x) for x in (means[0], means[-1] + Fraction(1, 7), rng.choice(means), means[len(means) // 2])]
        for limit in limits:
            low = [lot for lot in known if plain_mean(policy, scores, lot) < fraction(limit)]
            yield policy, scores, limit, low, keep, rng


class Bans(Case):
    def test_low_elements_and_bans(self):
        seen = set()
        for policy, scores, limit, low, _, rng in cases(431, 80):
            self.assertEqual(low_elements(policy, scores, limit), tuple(low))
            for lot in rng.sample(subsets(policy.views), min(12, 2 ** len(policy.views))):
                free = [other for other in low if not set(lot_of(other)) & set(lot)]
                mixed = rng.sample(lot, len(lot))
                self.assertIs(is_ban(policy, scores, limit, mixed), not free)
                answer = ban_evidence(policy, scores, limit, mixed)
                seen.add(answer[0])
                self.all_tuples(answer)
                self.assertTrue(judge_ban_evidence(policy, scores, limit, lot, answer), answer)
                self.assertIs(is_ban_evidence(policy, scores, limit, tuple(mixed), answer), True)
                if free:
                    self.assertEqual(answer, ("element", free[0]))
                    self.assertTrue(is_told_collection(answer[1], policy))
                else:
                    self.assertEqual((len(answer), answer[0]), (2, "transfer"))
                    self.assertTrue(is_told_transfer(policy.modes, answer[1]))
                for other in plain_elements(policy)[:5]:
                    value = ("element", other)
                    self.assertIs(is_ban_evidence(policy, scores, limit, lot, value),
                                  judge_ban_evidence(policy, scores, limit, lot, value))
                reasons = []
                for view in lot:
                    fitting = [e for e in low if set(lot_of(e)) & set(lot) == {view}]
                    reasons.append(fitting[0] if fitting else None)
                self.assertEqual(ban_reasons(policy, scores, limit, mixed), tuple(reasons))
        self.assertEqual(seen, {"transfer", "element"})

    def test_any_value_as_evidence(self):
        for policy, scores, limit, low, keep, rng in cases(432, 16):
            for lot in (tuple(keep), policy.views, ()):
                answer = ban_evidence(policy, scores, limit, lot)
                for value in variations(answer):
                    self.assertIs(is_ban_evidence(policy, scores, limit, lot, value),
                                  judge_ban_evidence(policy, scores, limit, lot, value), value)
                for value in ODD + [(), [], 3, ("transfer",), ("element", None)]:
                    self.assertIs(is_ban_evidence(policy, scores, limit, lot, value), False)

    def test_least_bans(self):
        seen = set()
        for policy, scores, limit, low, keep, rng in cases(433, 80):
            lots = [lot_of(lot) for lot in low]
            for kept in ((), keep):
                bans = least_hitting(policy.views, lots, kept)
                told = least_bans(policy, scores, limit, keep=kept)
                self.all_tuples(told)
                self.assertEqual(told, bans)
                seen.add(min(len(bans), 3))
                for ban in bans:
                    self.assertNotIn(None, ban_reasons(policy, scores, limit, ban))
                prices = [rng.randint(0, 3) for _ in policy.views]
                cost = dict(zip(policy.views, prices))
                best = min(((sum(cost[view] for view in ban), ban) for ban in bans), default=(0, None))[1]
                self.assertEqual(cheapest_ban(policy, scores, limit, prices, keep=tuple(kept)), best)
            self.assertEqual(least_bans(policy, scores, limit), least_bans(policy, scores, limit, keep=[]))
        self.assertEqual(seen, {0, 1, 2, 3})

    def test_best_ban(self):
        seen = set()
        for policy, scores, _, _, keep, rng in cases(434, 60):
            known = sorted(plain_elements(policy))
            if not known:
                self.without_network(lambda: best_ban(policy, scores, 3, keep=keep))
                continue
            for many in range(0, len(policy.views) + 2):
                found = []
                for lot in subsets([view for view in policy.views if view not in keep]):
                    means = [plain_mean(policy, scores, e) for e in known if not set(lot_of(e)) & set(lot)]
                    if len(lot) <= many and means:
                        found.append((-min(means), len(lot), lot))
                told = best_ban(policy, scores, many, keep=keep)
                self.assertEqual(told, (min(found)[2], pair(-min(found)[0])))
                self.all_tuples(told)
                seen.add(len(told[0]))
        self.assertLessEqual({0, 1, 2}, seen)

    def test_by_hand(self):
        policy = Policy(2, [(0, (1,)), (1, (0, 0)), (1, (1, 1)), (0, ())])
        none, one, middle, ring = policy.views
        self.assertEqual(low_elements(policy=policy, scores=[0, 1, 1, 2], limit=(1, 1)), (((none, 1),),))
        self.assertEqual(least_bans(policy=policy, scores=[0, 1, 1, 2], limit=(2, 1)), ((none, one), (none, middle)))
        self.assertEqual(least_bans(policy, [0, 1, 1, 2], (2, 1), keep=(middle,)), ((none, one),))
        self.assertEqual(least_bans(policy, [0, 1, 1, 2], (2, 1), keep=(none,)), ())
        self.assertEqual(least_bans(policy, [0, 1, 1, 2], (0, 1)), ((),))
        self.assertEqual(cheapest_ban(policy=policy, scores=[0, 1, 1, 2], limit=(2, 1), prices=[0, 2, 1, 0]), (none, middle))
        self.assertEqual(cheapest_ban(policy, [0, 1, 1, 2], (2, 1), [0, 2, 2, 0]), (none, one))
        self.assertIsNone(cheapest_ban(policy, [0, 1, 1, 2], (2, 1), [0, 2, 2, 0], keep=[none]))
        self.assertEqual(best_ban(policy=policy, scores=[0, 1, 1, 2], many=1), ((none,), (1, 1)))
        self.assertEqual(best_ban(policy, [0, 1, 1, 2], 9), ((none, one), (2, 1)))
        self.assertEqual(best_ban(policy, [0, 1, 1, 2], 0), ((), (0, 1)))
        self.assertEqual(ban_reasons(policy=policy, scores=[0, 1, 1, 2], limit=(2, 1), lot=[middle, none, one]),
                         (((none, 1),), None, None))
        self.assertIs(is_ban(policy=policy, scores=[0, 1, 1, 2], limit=(2, 1), lot=[one, none]), True)
        # Without all views the transfer may be any; with none left to obey it leaves as much as one likes.
        dead = Policy(2, [(0, (1,)), (1, (0, 0))])
        for limit in ((7, 2), (-9, 1), (10 ** 6, 1)):
            answer = ban_evidence(dead, [1, -5], limit, [(1, (0, 0))])
            self.assertEqual(answer[0], "transfer")
            self.assertTrue(judge_ban_evidence(dead, [1, -5], limit, [(1, (0, 0))], answer))
        self.assertIs(is_ban_evidence(policy=dead, scores=[3, 0], limit=(1, 1), lot=[], value=("transfer", ((1, 1),))), True)
        self.assertIs(is_ban_evidence(dead, [3, 0], (1, 1), [], ("transfer", ((0, 1),))), False)
        self.assertIs(is_ban_evidence(dead, [3, 0], (1, 1), [(1, (0, 0))], ("transfer", ((0, 1),))), True)


class Blocks(Case):
    def test_random_policies(self):
        rng = dice(441)
        for policy in chapter_policies(441, 160):
            lots = [lot_of(lot) for lot in plain_elements(policy)]
            keep = rng.sample(policy.views, rng.randint(0, min(2, len(policy.views))))
            self.assertEqual(least_blocks(policy), least_hitting(policy.views, lots))
            self.assertEqual(least_blocks(policy, keep=keep), least_hitting(policy.views, lots, keep))
            # There and back again.
            self.assertEqual(least_meeting(lots), least_blocks(policy))
            self.assertEqual(least_meeting(least_blocks(policy)), tuple(sorted(lot_of(lot) for lot in all_elements(policy))))

    def test_any_lots(self):
        rng = dice(442)
        pool = [(0, ()), (0, (0,)), (0, (1,)), (1, ()), (1, (0,)), (2, (3, 3)), (3, (2,))]
        for _ in range(150):
            lots = [tuple(rng.sample(pool, rng.randint(0 if rng.random() < 0.1 else 1, 4))) for _ in range(rng.randint(0, 6))]
            told = least_meeting(lots)
            self.all_tuples(told)
            self.assertEqual(told, least_hitting(sorted(pool), lots))
            self.assertEqual(least_meeting(tuple(lots) + tuple(lots)), told)

    def test_by_hand(self):
        self.assertEqual((least_meeting([]), least_meeting(lots=((),)), least_meeting([(), ((0, ()),)])), (((),), (), ()))
        self.assertEqual(least_meeting([((1, ()), (0, ()))]), (((0, ()),), ((1, ()),)))
        self.assertEqual(least_blocks(Policy(2, [(0, (1,))])), ((),))
        self.assertEqual(least_blocks(policy=Policy(1, [(0, ())]), keep=[(0, ())]), ())


class Errors(Case):
    def test_errors_in_their_order(self):
        policy = Policy(2, [(0, (1,)), (1, (0,))])
        scores, half = [1, 2], (1, 2)
        for work in (lambda s, lot: is_ban(policy, s, half, lot), lambda s, lot: ban_evidence(policy, s, half, lot),
                     lambda s, lot: is_ban_evidence(policy, s, half, lot, None),
                     lambda s, lot: ban_reasons(policy, s, half, lot),
                     lambda s, lot: least_bans(policy, s, half, keep=lot),
                     lambda s, lot: cheapest_ban(policy, s, half, [1, 1], keep=lot),
                     lambda s, lot: best_ban(policy, s, 1, keep=lot)):
            self.refuses_scores(policy, lambda value: work(value, None))
            refuses_lots(self, policy, lambda value: work(scores, value))
        self.refuses_scores(policy, lambda value: low_elements(policy, value, half))
        refuses_lots(self, policy, lambda value: least_blocks(policy, keep=value))
        for none in (Policy(2, [(0, (1,))]), Policy(1, [])):
            self.without_network(lambda: best_ban(none, [0] * len(none.views), 2))
            self.refuses_scores(none, lambda value: best_ban(none, value, 2))
            self.refused(InvalidView, 0, lambda: best_ban(none, [0] * len(none.views), 2, keep=[(1, ())]))

    def test_keep_is_passed_by_name(self):
        policy = Policy(2, [(0, (1,)), (1, (0,))])
        for work in (lambda: least_blocks(policy, ()), lambda: least_bans(policy, [1, 1], (1, 2), ()),
                     lambda: best_ban(policy, [1, 1], 1, ()), lambda: cheapest_ban(policy, [1, 1], (1, 2), [1, 1], ())):
            self.assertRaises(TypeError, work)

    def test_nothing_is_changed(self):
        policy = Policy(2, [(0, (1,)), (1, (0,)), (1, (1,))])
        scores, lot, prices = [1, 2, 3], [(1, (1,)), (0, (1,))], [3, 2, 1]
        for work in (is_ban, ban_evidence, ban_reasons):
            work(policy, scores, (5, 2), lot)
        cheapest_ban(policy, scores, (9, 1), prices, keep=lot)
        best_ban(policy, scores, 2, keep=lot)
        lots = [((1, ()), (0, ())), ((0, ()),)]
        least_meeting(lots)
        self.assertEqual((scores, lot, prices), ([1, 2, 3], [(1, (1,)), (0, (1,))], [3, 2, 1]))
        self.assertEqual(lots, [((1, ()), (0, ())), ((0, ()),)])


if __name__ == "__main__":
    unittest.main()

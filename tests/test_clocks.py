"""[33], [34]: clocks that fit, a clock or a collection of a network."""

import unittest
from math import gcd

from judges import judge_clock, judge_clock_evidence, network_within, plain_live
from plain import ODD, Case, all_policies, dice, plain_elements, plain_total, variations
from smallnets import linked, small_collections

from handalong.clocks import clock_evidence, is_clock, is_clock_evidence
from handalong.collected import copies, joined
from handalong.errors import InvalidQuestion
from handalong.policies import Policy
from handalong.views import all_views

WRONG_NUMBERS = ODD + [0, -1, 1000001, 10 ** 30, (1,), (2, 1)]


def small_policies(seed, many):
    """Random policies with few views and scores."""
    for policy, scores in all_policies(seed, many):
        if len(policy.views) <= 5:
            yield policy, scores


class Clocks(Case):
    def test_random_policies(self):
        rng = dice(331)
        words = set()
        for policy, scores in all_policies(331, 50):
            live = plain_live(policy)
            for row in (scores, [1] * len(scores), [0] * len(scores), [6 * x for x in scores]):
                for m in (1, 2, 3, rng.randint(4, 40), 1000000):
                    answer = clock_evidence(policy, row, m)
                    words.add(answer[0])
                    self.assertTrue(judge_clock_evidence(policy, row, live, m, answer), answer)
                    self.assertIs(is_clock_evidence(policy, row, m, answer), True)
                    self.all_tuples(answer)
                    if answer[0] == "clock":
                        self.assertIs(is_clock(policy, row, m, answer[1]), True)
                    for other in (1, 2, 5, 2 * m if m < 500001 else 7):
                        self.assertIs(is_clock_evidence(policy, row, other, answer),
                                      judge_clock_evidence(policy, row, live, other, answer))
        self.assertEqual(words, {"clock", "collection"})

    def test_small_networks(self):
        """The sums of all small networks are multiples of m if there is a clock; each collection is of one."""
        seen = set()
        for policy, scores in small_policies(332, 100):
            lots = [lot for row in small_collections(policy, 5).values() for lot in row]
            for row in (scores, [1] * len(scores)):
                common = 0
                for lot in lots:
                    common = gcd(common, plain_total(policy, row, lot))
                for m in (2, 3, 4, 5, common or 6):
                    answer = clock_evidence(policy, row, m)
                    seen.add((answer[0], common % m == 0))
                    if common % m:
                        self.assertEqual(answer[0], "collection")
                    if answer[0] == "collection" and sum(count for _, count in answer[1]) <= 8:
                        self.assertIsNotNone(linked([view for view, count in answer[1] for _ in range(count)]))
        self.assertLessEqual({("clock", True), ("collection", False)}, seen)

    def test_any_value_as_evidence(self):
        for policy, scores in all_policies(333, 40):
            live = plain_live(policy)
            for row, m in ((scores, 2), ([1] * len(scores), 3), ([0] * len(scores), 4)):
                answer = clock_evidence(policy, row, m)
                for value in variations(answer):
                    self.assertIs(is_clock_evidence(policy, row, m, value),
                                  judge_clock_evidence(policy, row, live, m, value), value)
                if answer[0] == "clock":
                    for value in variations(answer[1]):
                        self.assertIs(is_clock(policy, row, m, value), judge_clock(policy, row, live, m, value), value)
                for lot in plain_elements(policy)[:5]:
                    for other in (lot, copies(lot, 2), copies(lot, 6), joined(lot, copies(lot, 2))):
                        value = ("collection", other)
                        self.assertIs(is_clock_evidence(policy, row, m, value),
                                      judge_clock_evidence(policy, row, live, m, value))

    def test_many_views(self):
        rng = dice(334)
        for modes, most in ((2, 4), (3, 3), (3, 4)):
            policy = Policy(modes, [view for degree in range(most + 1) for view in all_views(modes, degree)])
            for scores in ([rng.randint(-1000, 1000) for _ in policy.views], [len(view[1]) for view in policy.views]):
                for m in (2, 999983):
                    answer = clock_evidence(policy, scores, m)
                    self.assertTrue(judge_clock_evidence(policy, scores, policy.views, m, answer))
                    self.assertIs(is_clock_evidence(policy, scores, m, answer), True)

    def test_by_hand(self):
        cubic = Policy(1, [(0, (0, 0, 0))])
        self.assertEqual((is_clock(cubic, (1,), 2, ((1, 1),)), is_clock(cubic, (1,), 2, ((0, 1),))), (True, False))
        self.assertIs(is_clock(policy=cubic, scores=[1], m=2, value=((-1, 1),)), True)
        self.assertIs(is_clock(cubic, [1], 2, ((1, 3),)), False)
        self.assertIs(is_clock(cubic, [3], 2, ((1, 2),)), False)
        self.assertIs(is_clock(cubic, [3], 1, ((1, 2),)), False)
        self.assertIs(is_clock(Policy(1, [(0, (0, 0))]), [3], 1, ((1, 2),)), True)
        self.assertIs(is_clock(cubic, [1], 2, ()), False)
        self.assertEqual(clock_evidence(policy=cubic, scores=[1], m=2)[0], "clock")
        answer = clock_evidence(cubic, [1], 4)
        self.assertEqual(answer[0], "collection")
        self.assertEqual(answer[1][0][1] % 4, 2)
        # Two sites cannot have three links each, four can.
        self.assertIs(is_clock_evidence(cubic, [1], 4, ("collection", (((0, (0, 0, 0)), 2),))), False)
        self.assertIs(is_clock_evidence(cubic, [1], 4, ("collection", (((0, (0, 0, 0)), 4),))), False)
        self.assertIs(is_clock_evidence(policy=cubic, scores=[1], m=4, value=("collection", (((0, (0, 0, 0)), 6),))), True)
        self.assertIs(is_clock_evidence(cubic, [1], 2, ("collection", (((0, (0, 0, 0)), 5),))), False)
        # Between unlike modes: each site in mode 0 sends 1/2 twice, the sites in mode 1 get it.
        ring = Policy(2, [(0, (1, 1)), (1, (0, 0))])
        self.assertIs(is_clock(ring, [1, 3], 4, ((0, 1), (1, 2), (0, 1))), True)
        self.assertIs(is_clock(ring, [1, 3], 4, ((4, 1), (1, 2), (-2, 1))), True)
        self.assertIs(is_clock(ring, [1, 3], 4, ((1, 1), (1, 2), (0, 1))), False)
        self.assertIs(is_clock(ring, [1, 3], 4, ((0, 1), (-1, 2), (0, 1))), False)
        none = Policy(2, [(0, (1,))])
        self.assertIs(is_clock(none, [7], 5, ((0, 1), (1, 3), (5, 2))), True)
        self.assertEqual(clock_evidence(none, [7], 5)[0], "clock")
        self.assertIs(is_clock_evidence(none, [7], 5, ("collection", (((0, (1,)), 2),))), False)

    def test_errors_in_their_order(self):
        for policy in (Policy(2, [(0, (1,))]), Policy(2, [(0, (1,)), (1, (0,))]), Policy(1, [])):
            scores = [1] * len(policy.views)
            for work in (lambda s, m: clock_evidence(policy, s, m), lambda s, m: is_clock(policy, s, m, None),
                         lambda s, m: is_clock_evidence(policy, s, m, None)):
                self.refuses_scores(policy, lambda value: work(value, None))
                for m in WRONG_NUMBERS:
                    self.refused(InvalidQuestion, 2, lambda: work(scores, m))
                for m in (1, 1000000):
                    work(scores, m)
            for value in ODD + [(), [], 3, ("clock",), ("clock", None), ("collection", None), ("collection", ())]:
                self.assertIs(is_clock_evidence(policy, scores, 2, value), False)
                self.assertIs(is_clock(policy, scores, 2, value), False)

    def test_large_collections_may_be_passed(self):
        cubic = Policy(1, [(0, (0, 0, 0))])
        self.assertIs(is_clock_evidence(cubic, [1], 4, ("collection", (((0, (0, 0, 0)), 10 ** 40 + 2),))), True)
        self.assertIs(is_clock_evidence(cubic, [1], 4, ("collection", (((0, (0, 0, 0)), 10 ** 40 + 1),))), False)

    def test_networks_of_evidence(self):
        for policy, scores in all_policies(335, 40):
            for m in (2, 7, 30):
                answer = clock_evidence(policy, scores, m)
                if answer[0] == "collection":
                    self.assertTrue(network_within(policy, answer[1]))


if __name__ == "__main__":
    unittest.main()

"""[27] to [29]: views that never occur, views and modes that others force."""

import unittest

from judges import judge_force, judge_never, plain_live
from plain import ODD, Case, all_policies, dice, is_told_transfer, plain_elements, variations

from handalong.errors import InvalidView
from handalong.forced import (force_evidence, forced_modes, is_force_evidence, is_never_evidence, needed_modes,
                              never_evidence)
from handalong.policies import Policy
from handalong.views import all_views


def lots_without(policy, some):
    """All least balanced collections without some views."""
    return [lot for lot in plain_elements(policy) if not any(view in some for view, _ in lot)]


class Never(Case):
    def check(self, policy, views, live):
        answer = never_evidence(policy, views)
        self.assertEqual(answer[0], "network" if any(view in live for view in views) else "never")
        self.assertTrue(judge_never(policy, views, answer), answer)
        self.assertIs(is_never_evidence(policy, views, answer), True)
        self.all_tuples(answer)
        return answer

    def test_random_policies(self):
        rng = dice(271)
        words = set()
        for policy, _ in all_policies(271, 80):
            live = plain_live(policy)
            dead = [view for view in policy.views if view not in live]
            for views in ([], dead, list(policy.views), dead * 2, rng.choices(policy.views, k=3)):
                answer = self.check(policy, views, live)
                words.add(answer[0])
                for lot in plain_elements(policy)[:3]:
                    value = ("network", lot)
                    self.assertIs(is_never_evidence(policy, tuple(views), value), judge_never(policy, views, value))
                if rng.random() < 0.3:
                    for value in variations(answer):
                        self.assertIs(is_never_evidence(policy, views, value), judge_never(policy, views, value), value)
        self.assertEqual(words, {"never", "network"})

    def test_by_hand(self):
        policy = Policy(2, [(0, (1,)), (1, (0, 0)), (1, (1, 1)), (0, (0, 1, 1))])
        self.assertEqual(never_evidence(policy, [])[0], "never")
        self.assertEqual(never_evidence(policy=policy, views=[(1, (1, 1))])[0], "network")
        other = Policy(2, [(0, ()), (0, (1,))])
        self.assertIs(is_never_evidence(other, [(0, (1,))], ("never", ((1, 1),))), True)
        self.assertIs(is_never_evidence(other, [], ("never", ((0, 1),))), True)
        self.assertIs(is_never_evidence(other, [(0, (1,))], ("never", ((0, 1),))), False)
        self.assertIs(is_never_evidence(other, [(0, ())], ("network", (((0, ()), 5),))), True)
        self.assertIs(is_never_evidence(policy=other, views=[(0, (1,))], value=("network", (((0, ()), 5),))), False)
        self.assertEqual(never_evidence(Policy(3, []), ()), ("never", never_evidence(Policy(3, []), [])[1]))

    def test_errors(self):
        policy = Policy(2, [(0, (1,)), (1, (0,))])
        for work in (lambda value: never_evidence(policy, value), lambda value: is_never_evidence(policy, value, None),
                     lambda value: force_evidence(policy, value, None), lambda value: force_evidence(policy, [], value),
                     lambda value: is_force_evidence(policy, value, [3], None),
                     lambda value: is_force_evidence(policy, [(0, (1,))] * 2, value, None)):
            for value in ODD:
                self.refused(InvalidView, 0, lambda: work(value))
            for odd in ODD + [(0, ()), (0, [1]), [0, (1,)], (0, (0,)), (2, (0,)), (False, (1,)), (0, (True,)), 5, (), []]:
                for row in ([odd], [(0, (1,)), odd], ((1, (0,)), (1, (0,)), odd, odd)):
                    self.refused(InvalidView, len(row) - 1 - (len(row) == 4), lambda: work(row))


class Force(Case):
    def check(self, policy, having, some):
        lots = lots_without(policy, some)
        live = {view for lot in lots for view, _ in lot}
        answer = force_evidence(policy, having, some)
        free = bool(lots) and all(view in live for view in having)
        self.assertEqual(answer[0], "network" if free else "forced")
        self.assertTrue(judge_force(policy, having, some, answer), (policy.views, having, some, answer))
        self.assertIs(is_force_evidence(policy, having, some, answer), True)
        self.all_tuples(answer)
        self.assertTrue(free or is_told_transfer(policy.modes, answer[2]))
        return answer

    def test_random_policies(self):
        rng = dice(281)
        seen = set()
        for policy, _ in all_policies(281, 80):
            views = policy.views
            for having in ([], views, rng.choices(views, k=2), rng.choices(views, k=1)):
                for some in ([], views, rng.choices(views, k=3), rng.choices(views, k=1)):
                    answer = self.check(policy, having, some)
                    seen.add((answer[0], bool(having), bool(some)))
                    for value in [("network", lot) for lot in plain_elements(policy)[:4]] + [("forced", None, answer[-1])]:
                        self.assertIs(is_force_evidence(policy, having, some, value),
                                      judge_force(policy, having, some, value))
                    if answer[0] == "forced":
                        for view in views:
                            value = ("forced", view, answer[2])
                            self.assertIs(is_force_evidence(policy, tuple(having), tuple(some), value),
                                          judge_force(policy, having, some, value))
                    if rng.random() < 0.1:
                        for value in variations(answer):
                            self.assertIs(is_force_evidence(policy, having, some, value),
                                          judge_force(policy, having, some, value), value)
        self.assertEqual(len(seen), 8)

    def test_by_hand(self):
        path = Policy(2, [(0, (1,)), (1, (0, 0)), (1, (1, 1))])
        one, middle, ring = path.views
        self.assertEqual(force_evidence(path, [one], [middle])[:2], ("forced", one))
        self.assertEqual(force_evidence(path, [ring], [middle]), ("network", ((ring, 1),)))
        self.assertEqual(force_evidence(path, having=[one, ring], some=[middle])[:2], ("forced", one))
        self.assertEqual(force_evidence(path, [], [middle, ring])[:2], ("forced", None))
        self.assertEqual(force_evidence(path, [], [middle]), ("network", ((ring, 1),)))
        # A view forces itself, and any transfer tells so.
        self.assertIs(is_force_evidence(path, [ring], [ring], ("forced", ring, ((0, 1),))), True)
        self.assertIs(is_force_evidence(path, [ring], [ring], ("forced", None, ((0, 1),))), False)
        self.assertIs(is_force_evidence(path, having=[], some=[middle, ring], value=("forced", None, ((1, 1),))), True)
        self.assertIs(is_force_evidence(path, [], [middle, ring], ("forced", one, ((1, 1),))), False)
        self.assertIs(is_force_evidence(path, [one], [middle], ("forced", one, ((1, 1),))), True)
        self.assertIs(is_force_evidence(path, [one], [middle], ("forced", one, ((1, 2),))), False)
        self.assertIs(is_force_evidence(path, [one], [middle], ("forced", None, ((1, 1),))), False)
        self.assertIs(is_force_evidence(path, [], [], ("network", ())), False)
        empty = Policy(1, [])
        self.assertEqual(force_evidence(empty, [], ()), ("forced", None, ()))
        for value in ODD + [(), ("forced",), ("network",), ("forced", one), 3]:
            self.assertIs(is_force_evidence(path, [one], [middle], value), False)

    def test_nothing_is_changed(self):
        policy = Policy(2, [(0, (1,)), (1, (0,))])
        having, some = [(1, (0,)), (0, (1,))], [(0, (1,)), (0, (1,))]
        force_evidence(policy, having, some)
        never_evidence(policy, having)
        self.assertEqual((having, some), ([(1, (0,)), (0, (1,))], [(0, (1,)), (0, (1,))]))


class Modes(Case):
    def test_random_policies(self):
        seen = 0
        for policy, _ in all_policies(291, 160):
            lots = [{view[0] for view, _ in lot} for lot in plain_elements(policy)]
            modes = range(policy.modes)
            self.assertEqual(needed_modes(policy), tuple(m for m in modes if all(m in lot for lot in lots)))
            live = {mode for lot in lots for mode in lot}
            pairs = tuple((a, b) for a in sorted(live) for b in sorted(live)
                          if a != b and all(b in lot for lot in lots if a in lot))
            self.assertEqual(forced_modes(policy), pairs)
            seen += bool(pairs)
        self.assertGreater(seen, 5)

    def test_by_hand(self):
        self.assertEqual(needed_modes(Policy(3, [])), (0, 1, 2))
        self.assertEqual(forced_modes(Policy(3, [])), ())
        self.assertEqual(needed_modes(policy=Policy(1, [(0, ())])), (0,))
        path = Policy(3, [(0, (1,)), (1, (0, 0)), (1, (1, 1)), (2, (0,))])
        self.assertEqual(needed_modes(path), (1,))
        self.assertEqual(forced_modes(policy=path), ((0, 1),))
        every = Policy(3, [view for degree in range(5) for view in all_views(3, degree)])
        self.assertEqual((needed_modes(every), forced_modes(every)), ((), ()))


if __name__ == "__main__":
    unittest.main()

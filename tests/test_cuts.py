"""[57]: kinds of links, plans of cuts, bridges."""

import unittest
from itertools import combinations

from judges import plain_live
from judges_more import judge_cut
from plain import (ODD, Agreeable, Case, all_policies, dice, half, is_told_collection, plain_elements, random_network_parts,
                   random_policy_views, variations, walked_views)
from test_regions import hang_together
from test_sections import walked_cut

from handalong.collected import collected, copies, joined
from handalong.cuts import bridges, cut_evidence, is_cut_evidence, link_kinds
from handalong.errors import InvalidQuestion, Refused
from handalong.networks import Network
from handalong.policies import Policy
from handalong.views import all_views


def plain_kinds(live):
    return tuple(sorted({(view[0], mode) for view in live for mode in view[1]}))


def some_cuts(rng, kinds):
    """Plans of cuts: the empty one, one link, and some more."""
    yield ()
    for kind in kinds:
        yield ((kind, 1),)
    for _ in range(5):
        chosen = sorted(rng.sample(kinds, rng.randint(0, min(4, len(kinds)))))
        yield tuple((kind, rng.choice((1, 1, 2, 3, 4, 12))) for kind in chosen)


class Kinds(Case):
    def test_random_policies(self):
        for policy, _ in all_policies(571, 120):
            told = link_kinds(policy)
            self.assertEqual(told, plain_kinds(plain_live(policy)))
            self.assertTrue(all((b, a) in told for a, b in told))
        self.assertEqual(link_kinds(policy=Policy(2, [(0, (1,)), (1, (1,))])), ((1, 1),))
        self.assertEqual(link_kinds(Policy(1, [])), ())


class Evidence(Case):
    def test_random_policies(self):
        rng = dice(572)
        words = set()
        for policy, _ in all_policies(572, 120):
            live = plain_live(policy)
            if not live:
                self.without_network(lambda: cut_evidence(policy, ()))
                continue
            for cut in some_cuts(rng, plain_kinds(live)):
                answer = cut_evidence(policy, cut)
                words.add((answer[0], len(answer), bool(cut)))
                self.all_tuples(answer)
                self.assertTrue(judge_cut(policy, live, cut, answer), (policy.views, cut, answer))
                self.assertIs(is_cut_evidence(policy, cut, answer), True)
                if answer[0] == "section":
                    self.assertTrue(is_told_collection(answer[1], policy))
                lots = [lot for lot in plain_elements(policy)[:4]]
                lots += [copies(lot, 2) for lot in lots]
                lots += [joined(lot, answer[1]) for lot in lots] if answer[0] == "section" else [((policy.views[0], 1),)]
                for lot in lots:
                    value = ("section", lot)
                    self.assertIs(is_cut_evidence(policy, cut, value), judge_cut(policy, live, cut, value))
        self.assertEqual(words, {("section", 2, False), ("section", 2, True), ("clock", 2, True)})

    def test_any_value(self):
        rng = dice(573)
        for policy, _ in all_policies(573, 24):
            live = plain_live(policy)
            if live:
                for cut in list(some_cuts(rng, plain_kinds(live)))[::2]:
                    for value in variations(cut_evidence(policy, cut)):
                        self.assertIs(is_cut_evidence(policy, cut, value), judge_cut(policy, live, cut, value), value)
                    for value in ODD + [(), [], 3, ("clock",), ("clock", None), ("section", None), ("section", ())]:
                        self.assertIs(is_cut_evidence(policy, cut, value), False)

    def test_few_views(self):
        """With one or two views for each mode a transfer may go round without being left anywhere."""
        rng = dice(577)
        words = {"section": 0, "clock": 0}
        for at in range(600):
            modes = at % 2 + 3
            pool = {mode: [view for degree in (2, 3) for view in all_views(modes, degree) if view[0] == mode]
                    for mode in range(modes)}
            policy = Policy(modes, [view for mode in pool for view in rng.sample(pool[mode], rng.randint(1, 2))][:6])
            live = plain_live(policy)
            if len(live) > 2:
                for cut in some_cuts(rng, plain_kinds(live)):
                    answer = cut_evidence(policy, cut)
                    self.assertTrue(judge_cut(policy, live, cut, answer), (policy.views, cut, answer))
                    self.assertIs(is_cut_evidence(policy, cut, answer), True)
                    words[answer[0]] += 1
        self.assertGreater(min(words.values()), 50)

    def test_cuts_of_sections(self):
        """Each cut of a section of some network is one, and the collection of the section tells so."""
        rng = dice(574)
        for at in range(50):
            modes, links = random_network_parts(rng, at % 4 + 1, rng.randint(1, 7))
            views = walked_views(modes, links)
            policy = Policy(4, sorted(set(views)))
            for size in range(1, len(modes) + 1):
                for section in list(combinations(range(len(modes)), size))[::5]:
                    cut = walked_cut(modes, links, section)
                    self.assertEqual(cut_evidence(policy, cut)[0], "section")
                    lot = collected([views[site] for site in section])
                    self.assertIs(is_cut_evidence(policy, cut, ("section", lot)), True)

    def test_many_views(self):
        policy = Policy(3, [view for degree in range(5) for view in all_views(3, degree)])
        for cut in ((), (((0, 1), 1),), (((0, 0), 3), ((2, 1), 7))):
            answer = cut_evidence(policy, cut)
            self.assertEqual(answer[0], "section")
            self.assertTrue(judge_cut(policy, policy.views, cut, answer))

    def test_by_hand(self):
        ring = Policy(2, [(0, (1, 1)), (1, (0, 0))])
        self.assertEqual(cut_evidence(ring, (((0, 1), 2),))[0], "section")
        answer = cut_evidence(policy=ring, cut=(((0, 1), 1),))
        self.assertEqual(answer[0], "clock")
        self.assertIs(is_cut_evidence(ring, (((0, 1), 1),), ("clock", ((0, 1), (1, 2), (0, 1)))), True)
        self.assertIs(is_cut_evidence(ring, (((0, 1), 2),), ("clock", ((0, 1), (1, 2), (0, 1)))), False)
        self.assertIs(is_cut_evidence(ring, (((0, 1), 1),), ("clock", ((0, 1), (1, 3), (0, 1)))), False)
        self.assertIs(is_cut_evidence(ring, (((0, 1), 1), ((1, 0), 1)), ("section", (((0, (1, 1)), 1), ((1, (0, 0)), 1)))), True)
        self.assertIs(is_cut_evidence(ring, (((0, 1), 1), ((1, 0), 3)), ("section", (((1, (0, 0)), 1),))), True)
        # Half a link of two ends in mode 0: 2 t(0, 0) is an integer, t(0, 0) is not.
        cubic = Policy(1, [(0, (0, 0, 0))])
        self.assertEqual(cut_evidence(cubic, (((0, 0), 1),)), ("section", (((0, (0, 0, 0)), 1),)))
        even = Policy(1, [(0, (0, 0))])
        self.assertEqual(cut_evidence(even, (((0, 0), 1),))[0], "clock")
        self.assertIs(is_cut_evidence(policy=even, cut=(((0, 0), 1),), value=("clock", ((1, 2),))), True)
        self.assertIs(is_cut_evidence(even, (((0, 0), 2),), ("clock", ((1, 2),))), False)
        # A view that would fit is dead: each of the three modes has as many sites.
        turn = Policy(3, [(0, (1,)), (0, (1, 2)), (1, (0, 2)), (2, (0, 1))])
        self.assertEqual(cut_evidence(turn, (((0, 1), 1),))[0], "clock")
        self.assertIs(is_cut_evidence(turn, (((0, 1), 1),), ("section", (((0, (1,)), 1),))), False)
        self.assertIs(is_cut_evidence(turn, (((0, 1), 1), ((0, 2), 1)), ("section", (((0, (1, 2)), 1),))), True)
        # The whole network is a section without a cut.
        self.assertEqual(cut_evidence(Policy(1, [(0, ())]), ())[0], "section")
        self.assertIs(is_cut_evidence(Policy(1, [(0, ())]), (), ("section", (((0, ()), 1),))), True)

    def test_errors_in_their_order(self):
        policy = Policy(3, [(0, (1,)), (1, (0, 1)), (2, (1,))])
        none = Policy(2, [(0, (1,))])
        wrong = ODD + [[], 3, (None,), (((0, 1), 0),), (((0, 1), True),), (((0, 1), 1.0),), (((0, 1), 1), ((0, 1), 2)),
                       (((1, 0), 1), ((0, 1), 1)), (((0, 0), 1),), (((2, 1), 1),), (((1, 2), 1),), ([(0, 1), 1],), (([0, 1], 1),),
                       (((0, True), 1),), (((0, 1), 1, 1),), (((0, 1, 1), 1),), ((0, 1),), (((0, 5), 1),), [((0, 1), 1)],
                       ((Agreeable(), 1),), (((0, Agreeable()), 1),), ((("0", 1), 1),), (((0, 1), -1),), (((False, 1), 1),),
                       (((Agreeable(), 1), 1),), (((0, 1), Agreeable()),)]
        for work in (cut_evidence, lambda p, cut: is_cut_evidence(p, cut, None)):
            for value in wrong:
                self.refused(InvalidQuestion, 1, lambda: work(policy, value))
                self.without_network(lambda: work(none, value))
                self.without_network(lambda: work(Policy(1, []), value))
            work(policy, (((0, 1), 1), ((1, 0), 1)))
        self.assertIs(is_cut_evidence(policy, (), None), False)


class Bridges(Case):
    def test_random_policies(self):
        rng = dice(575)
        seen = set()
        for at in range(160):
            modes = at % 3 + 1
            views = [view for view in random_policy_views(rng, modes, (3, 8, 8)[modes - 1], most=4) if len(view[1]) > 1]
            policy = Policy(modes, views)
            live = plain_live(policy)
            found = tuple((a, b) for a, b in plain_kinds(live)
                          if a <= b and cut_evidence(policy, (((a, b), 1),))[0] == "section")
            self.assertEqual(bridges(policy), found)
            self.all_tuples(bridges(policy))
            seen.add((bool(live), bool(found)))
        self.assertEqual(seen, {(True, True), (True, False), (False, False)})

    def test_small_networks(self):
        """What divides a connected network is a bridge of the policy of its views."""
        rng = dice(576)
        some = 0
        for at in range(1600):
            modes, links = random_network_parts(rng, at % 4 + 1, rng.randint(5, 8), tries=rng.randint(7, 14))
            network = Network(modes, links)
            views = network.site_views()
            if not hang_together(network) or any(len(view[1]) < 2 for view in views):
                continue
            told = bridges(Policy(4, sorted(set(views))))
            for link in links:
                rest = Network(modes, [other for other in links if other != link])
                if not hang_together(rest):
                    some += 1
                    self.assertIn(tuple(sorted((modes[link[0]], modes[link[1]]))), told)
        self.assertGreater(some, 3)

    def test_by_hand(self):
        self.assertEqual(bridges(policy=Policy(1, [(0, (0, 0, 0))])), ((0, 0),))
        self.assertEqual(bridges(Policy(1, [(0, (0, 0, 0, 0)), (0, (0, 0))])), ())
        two = Policy(2, [(0, (0, 0, 1)), (1, (0, 1, 1))])
        self.assertEqual(bridges(two), ((0, 1),))
        self.assertEqual(half((((0, (0, 0, 1)), 1),), 0, 1), 1)

    def test_errors(self):
        policy = Policy(2, [(0, (0, 0)), (1, ()), (1, (1,)), (1, (0, 0))])
        self.refused(Refused, 1, lambda: bridges(policy))
        self.refused(Refused, 1, lambda: bridges(Policy(2, [(0, (1,)), (1, (1, 1)), (1, (1,))])))
        self.assertEqual((bridges(Policy(2, [(0, (1,))])), bridges(Policy(1, []))), ((), ()))


if __name__ == "__main__":
    unittest.main()

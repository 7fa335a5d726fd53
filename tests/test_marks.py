"""[89] to [91]: marked networks and mark policies, split networks, least means, marked covers."""

import unittest
from fractions import Fraction

from plain import (ODD, Agreeable, Case, balanced, dice, fraction, is_told_collection, judge_none, plain_elements, plain_sends,
                   random_network_parts, strict_collection, strict_fraction, strict_transfer, told, variations)
from test_common import even_network, lies_over, near_sites

from handalong.covers import is_over
from handalong.errors import (InvalidNetwork, InvalidPolicy, InvalidQuestion, InvalidRule, InvalidScore, InvalidView, NotObeyed)
from handalong.marks import (Marked, MarkPolicy, breaks, is_marked_evidence, least_marked, marked_cover, split, translated,
                             unmarked, unsplit)
from handalong.networks import Network
from handalong.policies import Policy


def plain_row(modes, links, site):
    return (modes[site], tuple(sorted(mark for i, j, mark in links if site in (i, j))))


def random_marked(rng, modes, marks, many):
    told_modes, links = random_network_parts(rng, modes, many)
    return told_modes, [(i, j, rng.randrange(marks)) for i, j in links]


def random_mark_policy(rng, modes, marks, most=6):
    rows, ties = set(), set()
    for _ in range(rng.randint(0, most)):
        rows.add((rng.randrange(modes), tuple(sorted(rng.randrange(marks) for _ in range(rng.choice((0, 1, 1, 2, 2, 3)))))))
    for _ in range(rng.randint(0, most)):
        ties.add((rng.randrange(marks),) + tuple(sorted(rng.randrange(modes) for _ in range(2))))
    return MarkPolicy(modes, marks, sorted(rows), sorted(ties))


def judge_marked(policy, whole, scores, value):
    """Whether any value is right evidence of [91]."""
    if told(value, "none", 2):
        return judge_none(whole, value)
    if not told(value, "mean", 4) or not strict_fraction(value[1]):
        return False
    _, c, lot, transfer = value
    if not strict_collection(whole, lot) or not balanced(lot) or not strict_transfer(whole.modes, transfer):
        return False
    worth = dict(zip(whole.views, list(scores) + [None] * len(policy.ties)))
    sites = sum(count for view, count in lot if view[0] < policy.modes)
    if sum(worth[view] * count for view, count in lot if view[0] < policy.modes) != fraction(c) * sites:
        return False
    for view in whole.views:
        sent = plain_sends(whole.modes, transfer, view)
        if (worth[view] - sent < fraction(c)) if view[0] < policy.modes else -sent < 0:
            return False
    return True


class Networks(Case):
    def test_attributes(self):
        rng = dice(891)
        for at in range(60):
            modes, links = random_marked(rng, at % 4 + 1, at % 3 + 1, rng.randint(1, 8))
            given = [rng.choice((tuple, list))((i, j, m) if rng.random() < 0.5 else (j, i, m)) for i, j, m in links]
            rng.shuffle(given)
            marked = Marked(modes, given)
            self.assertEqual((marked.modes, marked.links), (tuple(modes), tuple(sorted(links))))
            self.all_tuples((marked.modes, marked.links))
            for site in range(len(modes)):
                self.assertEqual(marked.row(site), plain_row(modes, links, site))
                self.all_tuples(marked.row(site))
            self.assertEqual(unmarked(marked), Network(modes, [link[:2] for link in links]))
            for value in ODD + [len(modes), -1, "0", (0,)]:
                self.refused(InvalidQuestion, 0, lambda: marked.row(value))
        rows = [[0, 1, 2]]
        marked = Marked([0, 1], rows)
        rows[0][2] = 0
        rows.append(None)
        self.assertEqual(marked.links, ((0, 1, 2),))
        self.assertEqual(Marked(modes=[3], links=()).row(at=0), (3, ()))

    def test_errors(self):
        for value in ODD + [[], ()]:
            self.refused(InvalidNetwork, 0, lambda: Marked(value, None))
        for value in ODD + [4, -1, (0,)]:
            self.refused(InvalidNetwork, 1, lambda: Marked([0, value, None], None))
        for value in ODD:
            self.refused(InvalidNetwork, 3, lambda: Marked([0, 1, 2], value))
        good = [(0, 1, 0), [1, 2, 3]]
        wrong = ODD + [(), (0, 2), (0, 2, 0, 0), (0, 2, 4), (0, 2, -1), (0, 2, None), (0, 2, True), (0, 2, "0"), (0, 2, 1.0), (0, 0, 1),
                       (0, 3, 1), (-1, 0, 1), (0, True, 1), (False, 2, 1), ("0", 2, 1), (1, 0, 1), (2, 1, 0), {0: 1, 2: 3, 4: 5}, "021"]
        for value in wrong:
            self.refused(InvalidNetwork, 5, lambda: Marked([0, 1, 2], good + [value, None]))
        star = [(0, at, 0) for at in range(1, 5)]
        self.refused(InvalidNetwork, 6 + 4, lambda: Marked([0] * 6, star + [(0, 5, 0)]))
        self.refused(InvalidNetwork, 6 + 4, lambda: Marked([0] * 6, star + [(5, 0, 1), None]))
        self.assertEqual(len(Marked([0] * 5, star).links), 4)

    def test_equality(self):
        things = [Marked([0], []), Marked([1], []), Marked([0, 0], [(0, 1, 0)]), Marked([0, 0], [(0, 1, 1)]),
                  MarkPolicy(1, 1, [], []), MarkPolicy(2, 1, [], []), MarkPolicy(1, 2, [], []), MarkPolicy(1, 1, [(0, ())], []),
                  MarkPolicy(1, 1, [], [(0, 0, 0)]), Network([0], [])]
        for at, one in enumerate(things):
            for place, other in enumerate(things):
                self.assertIs(one == other, at == place)
                self.assertIs(one != other, at != place)
            for value in ODD + [vars(one), tuple(vars(one).values()), 0, ()]:
                self.assertIs(one == value, False)
                if not isinstance(value, Agreeable):
                    self.assertIs(value == one, False)
        self.assertEqual(Marked([0, 0], [[1, 0, 1]]), Marked((0, 0), ((0, 1, 1),)))
        self.assertEqual(MarkPolicy(2, 2, [(0, [1, 0])], [(1, 1, 0)]), MarkPolicy(2, 2, [(0, (0, 1))], [(1, 0, 1)]))


class Policies(Case):
    def test_attributes(self):
        policy = MarkPolicy(modes=2, marks=2, rows=[(1, [1, 0, 0]), (0, ())], ties=((1, 1, 0), (0, 1, 1)))
        self.assertEqual((policy.modes, policy.marks), (2, 2))
        self.assertEqual(policy.rows, ((0, ()), (1, (0, 0, 1))))
        self.assertEqual(policy.ties, ((0, 1, 1), (1, 0, 1)))
        self.all_tuples((policy.rows, policy.ties))

    def test_errors(self):
        for value in ODD + [0, -1, 4, 5, "1", (1,)]:
            self.refused(InvalidPolicy, 0, lambda: MarkPolicy(value, 1, None, None))
            self.refused(InvalidPolicy, 0, lambda: MarkPolicy(1, value, None, None))
        for modes, marks in ((2, 3), (3, 2), (3, 3)):
            self.refused(InvalidPolicy, 0, lambda: MarkPolicy(modes, marks, [], []))
        for value in ODD:
            self.refused(InvalidView, 0, lambda: MarkPolicy(2, 2, value, None))
            self.refused(InvalidRule, 0, lambda: MarkPolicy(2, 2, [], value))
        rows = [(0, [0, 1]), (1, ())]
        for value in ODD + [(), (0,), (0, (), 0), (2, ()), (-1, ()), (True, (0,)), (0, (2,)), (0, (0,) * 5), (0, 0), (0, "0"), (0, None),
                            (0, (False,)), (0, (1, 0)), (1, []), (0, {0: 1}), [0, ()]]:
            self.refused(InvalidView, 2, lambda: MarkPolicy(2, 2, rows + [value, None], None))
        ties = [(0, 0, 1), (1, 1, 1)]
        for value in ODD + [(), (0, 0), (0, 0, 0, 0), (2, 0, 0), (0, 2, 0), (0, 0, 2), (-1, 0, 0), (True, 0, 0), (0, False, 0), (0, 1, 0),
                            (0, 0, 1), ("0", 0, 0), [0, 0, 0], (0, 0, None)]:
            self.refused(InvalidRule, 2, lambda: MarkPolicy(2, 2, rows, ties + [value, None]))

    def test_breaks_and_splits(self):
        rng = dice(901)
        kinds = set()
        for at in range(300):
            modes, marks = ((1, 1), (1, 2), (2, 1), (2, 2), (1, 3), (3, 1))[at % 6]
            told_modes, links = random_marked(rng, modes, marks, rng.randint(1, 6))
            marked = Marked(told_modes, links)
            rows = sorted({plain_row(told_modes, links, site) for site in range(len(told_modes))})
            ties = sorted({(mark,) + tuple(sorted((told_modes[i], told_modes[j]))) for i, j, mark in links})
            policy = MarkPolicy(modes, marks, rows[at % 4 // 3:], ties[at % 5 // 4:])
            sites = tuple(s for s in range(len(told_modes)) if plain_row(told_modes, links, s) not in policy.rows)
            wrong = tuple(k for k, (i, j, mark) in enumerate(marked.links)
                          if (mark,) + tuple(sorted((told_modes[i], told_modes[j]))) not in policy.ties)
            self.assertEqual(breaks(policy, marked), (sites, wrong))
            self.all_tuples(breaks(policy, marked))
            kinds.add((bool(sites), bool(wrong)))
            network = split(marked, modes)
            many = len(told_modes)
            self.assertEqual(network.modes, tuple(told_modes) + tuple(modes + mark for _, _, mark in marked.links))
            plain = [(end, many + k) for k, (i, j, _) in enumerate(marked.links) for end in (i, j)]
            self.assertEqual(network, Network(network.modes, plain))
            whole = translated(policy)
            views = [(mode, tuple(modes + m for m in row)) for mode, row in policy.rows]
            views += [(modes + mark, (a, b)) for mark, a, b in policy.ties]
            self.assertEqual(whole, Policy(modes + marks, views))
            bad = [k for k, view in enumerate(network.site_views()) if view not in whole.views]
            self.assertEqual(not bad, not sites and not wrong)
            if bad:
                self.refused(NotObeyed, bad[0], lambda: unsplit(network, policy))
            else:
                self.assertEqual(unsplit(network, policy), marked)
                self.check_mixed_up(rng, network, policy, marked)
        self.assertEqual(len(kinds), 4)

    def check_mixed_up(self, rng, network, policy, marked):
        """The sites in any order: those that are no links keep theirs."""
        order = rng.sample(range(len(network.modes)), len(network.modes))
        mixed = Network([network.modes[site] for site in order],
                        [(order.index(i), order.index(j)) for i, j in network.links])
        kept = [site for site in order if network.modes[site] < policy.modes]
        wanted = Marked([marked.modes[site] for site in kept], [(kept.index(i), kept.index(j), m) for i, j, m in marked.links])
        self.assertEqual(unsplit(mixed, policy), wanted)

    def test_split_refusals(self):
        marked = Marked([0, 1], [(0, 1, 1)])
        for value in ODD + [1, 0, 4, 3, -1, "2", (2,)]:
            self.refused(InvalidQuestion, 1, lambda: split(marked, value))
        self.assertEqual(split(marked=marked, modes=2), Network([0, 1, 3], [(0, 2), (1, 2)]))
        self.assertEqual(split(Marked([2], []), 3), Network([2], []))
        self.refused(InvalidQuestion, 1, lambda: split(Marked([3], []), 3))
        self.refused(InvalidQuestion, 1, lambda: split(Marked([0, 0, 0], [(0, 1, 0), (1, 2, 3)]), 1))
        self.assertEqual(split(Marked([0, 0, 0], [(0, 1, 0), (1, 2, 2)]), 1).modes, (0, 0, 0, 1, 3))
        self.refused(InvalidQuestion, 1, lambda: split(Marked([3], []), 4))
        self.assertEqual(split(Marked([0, 0], [(0, 1, 0)]), 3).modes, (0, 0, 3))

    def test_unsplit(self):
        policy = MarkPolicy(1, 2, [(0, (0, 1)), (0, (0, 0)), (0, ())], [(0, 0, 0), (1, 0, 0)])
        twice = Network([0, 0, 1, 2], [(0, 2), (1, 2), (0, 3), (1, 3)])
        self.assertIsNone(unsplit(network=twice, policy=policy))
        same = Network([0, 0, 1, 1], [(0, 2), (1, 2), (0, 3), (1, 3)])
        self.assertIsNone(unsplit(same, policy))
        self.assertEqual(unsplit(Network([0, 0], []), policy), Marked([0, 0], []))
        self.refused(NotObeyed, 1, lambda: unsplit(Network([0, 1], []), policy))
        self.refused(NotObeyed, 0, lambda: unsplit(Network([3], []), policy))
        empty = MarkPolicy(1, 1, [], [])
        self.assertEqual(translated(empty), Policy(2, []))
        self.refused(NotObeyed, 0, lambda: unsplit(Network([0], []), empty))
        self.assertEqual(breaks(policy=empty, marked=Marked([0, 0], [(0, 1, 0)])), ((0, 1), (0,)))


class Means(Case):
    def test_random_policies(self):
        rng = dice(911)
        words = set()
        for at in range(150):
            modes, marks = ((1, 1), (1, 2), (2, 1), (2, 2), (1, 3), (3, 1))[at % 6]
            policy = random_mark_policy(rng, modes, marks)
            scores = [rng.randint(-9, 9) for _ in policy.rows]
            whole = translated(policy)
            answer = least_marked(policy, scores if at % 2 else tuple(scores))
            words.add((answer[0], bool(policy.rows)))
            self.all_tuples(answer)
            self.assertTrue(judge_marked(policy, whole, scores, answer), (policy.rows, policy.ties, answer))
            self.assertIs(is_marked_evidence(policy, scores, answer), True)
            lots = plain_elements(whole)
            self.assertEqual(answer[0], "mean" if lots else "none")
            worth = dict(zip(whole.views, scores + [0] * len(policy.ties)))
            if lots:
                self.assertTrue(is_told_collection(answer[2], whole))
                ratios = [Fraction(sum(worth[view] * k for view, k in lot), sum(k for view, k in lot if view[0] < modes))
                          for lot in lots]
                self.assertEqual(fraction(answer[1]), min(ratios))
                for lot in lots[:4]:
                    value = answer[:2] + (lot,) + answer[3:]
                    self.assertIs(is_marked_evidence(policy, scores, value), judge_marked(policy, whole, scores, value))
            for value in ODD:
                self.assertIs(is_marked_evidence(policy, scores, value), False)
            if at % 15 < 2:
                for value in variations(answer):
                    self.assertIs(is_marked_evidence(policy, scores, value), judge_marked(policy, whole, scores, value), value)
        self.assertEqual(words, {("mean", True), ("none", True), ("none", False)})

    def test_scores(self):
        for policy in (MarkPolicy(1, 2, [(0, (0, 1)), (0, ())], [(0, 0, 0)]), MarkPolicy(1, 1, [], [(0, 0, 0)]), MarkPolicy(1, 1, [], [])):
            many = len(policy.rows)
            self.refuses_weights(many, lambda value: least_marked(policy, value)) if many else None
            self.refuses_weights(many, lambda value: is_marked_evidence(policy, value, None)) if many else None
            self.refused(InvalidScore, many, lambda: least_marked(policy, [0] * (many + 1)))
            self.refused(InvalidScore, many, lambda: is_marked_evidence(policy, None, None))
        self.assertEqual(least_marked(MarkPolicy(1, 1, [], []), [])[0], "none")

    def test_by_hand(self):
        policy = MarkPolicy(2, 1, [(0, (0,)), (1, (0, 0))], [(0, 0, 1)])
        answer = least_marked(policy=policy, scores=[3, 9])
        self.assertEqual(answer[:3], ("mean", (5, 1), (((0, (2,)), 2), ((1, (2, 2)), 1), ((2, (0, 1)), 2))))
        self.assertIs(is_marked_evidence(policy=policy, scores=[3, 9], value=answer), True)
        none = MarkPolicy(2, 1, [(0, (0,)), (1, (0, 0))], [(0, 0, 0), (0, 1, 1)][:0])
        self.assertEqual(least_marked(none, [3, 9])[0], "none")


class Covers(Case):
    def test_marked_covers(self):
        rng = dice(912)
        seen = set()
        for at in range(80):
            degree = at % 5
            network = even_network(rng, rng.choice((6, 8, 10, 16, 30)) if degree > 2 else rng.randint(2, 20) * 2, degree)
            answer = marked_cover(network)
            self.assertEqual((type(answer), len(answer)), (tuple, 2))
            marked, sites = answer
            self.assertIs(type(marked), Marked)
            self.all_tuples(sites)
            plain = unmarked(marked)
            self.assertTrue(lies_over(plain, network, sites))
            self.assertIs(is_over(plain, network, sites), True)
            self.assertLessEqual(len(plain.modes), max(1, degree) * len(network.modes))
            self.assertEqual(set(sites), set(range(len(network.modes))))
            for site in range(len(plain.modes)):
                self.assertEqual(marked.row(site)[1], tuple(range(degree)))
            seen.add(degree)
        self.assertEqual(seen, {0, 1, 2, 3, 4})

    def test_refusals(self):
        self.refused(InvalidQuestion, 0, lambda: marked_cover(Network([0] * 3, [(0, 1), (1, 2)])))
        self.refused(InvalidQuestion, 0, lambda: marked_cover(Network([0] * 3, [(0, 1)])))
        self.assertEqual(marked_cover(network=Network([2], [])), (Marked([2], []), (0,)))
        self.assertEqual(near_sites(2, [(0, 1)]), [[1], [0]])


if __name__ == "__main__":
    unittest.main()

"""[79] to [81]: living networks beside plain lists of modes and links."""

import unittest
from collections import Counter

from plain import (ODD, Agreeable, Case, dice, fraction, pair, plain_sends, random_policy_views, walked_views)

from handalong.errors import InvalidScore, InvalidTransfer, NotObeyed, Refused
from handalong.living import Living
from handalong.networks import Network
from handalong.policies import Policy
from handalong.views import all_views


class Plain:
    """What a living network is, as plain lists of modes and links."""

    def __init__(self, policy):
        self.policy, self.modes, self.links = policy, [], set()

    def can(self, word, values):
        many = len(self.modes)
        if any(type(value) is not int for value in values):
            return False
        if word == "add":
            return values[0] in range(self.policy.modes)
        if word == "turn":
            return values[0] in range(many) and values[1] in range(self.policy.modes)
        i, j = sorted(values)
        if i < 0 or j >= many or i == j:
            return False
        if word == "cut":
            return (i, j) in self.links
        return (i, j) not in self.links and all(sum(x in link for link in self.links) < 4 for x in (i, j))

    def do(self, word, values):
        if word == "add":
            self.modes.append(values[0])
            return len(self.modes) - 1
        if word == "turn":
            self.modes[values[0]] = values[1]
        elif word == "link":
            self.links.add(tuple(sorted(values)))
        else:
            self.links.remove(tuple(sorted(values)))
        return None

    def copied(self):
        other = Plain(self.policy)
        other.modes, other.links = list(self.modes), set(self.links)
        return other

    def views(self):
        return walked_views(self.modes, sorted(self.links))

    def waiting(self, site):
        mode, near = self.views()[site]
        return tuple(view for view in self.policy.views if view[0] == mode and not Counter(near) - Counter(view[1]))

    def open_ends(self):
        counts = Counter()
        for site, view in enumerate(self.views()):
            if view not in self.policy.views:
                if not self.waiting(site):
                    return None
                for mode in (Counter(self.waiting(site)[0][1]) - Counter(view[1])).elements():
                    counts[view[0], mode] += 1
        return tuple((a, b, counts[a, b]) for a, b in sorted(counts))


def random_deed(rng, plain):
    word = rng.choice(("add", "turn", "link", "link", "link", "link", "link", "cut"))
    many = len(plain.modes) + 1
    if rng.random() < 0.7 and word == "add":
        return word, (rng.randrange(plain.policy.modes),)
    if rng.random() < 0.8 and word == "link" and many > 2:
        return word, tuple(rng.sample(range(many - 1), 2))
    if word == "add":
        return word, (rng.randint(-1, plain.policy.modes),)
    if word == "turn":
        return word, (rng.randint(-1, many), rng.randint(0, plain.policy.modes))
    if word == "cut" and plain.links and rng.random() < 0.6:
        return word, rng.choice(sorted(plain.links))[::rng.choice((1, -1))]
    return word, (rng.randint(-1, many), rng.randrange(many))


class Deeds(Case):
    def same(self, living, plain):
        self.assertEqual(living.modes, tuple(plain.modes))
        self.assertEqual(living.links, tuple(sorted(plain.links)))
        self.all_tuples(living.modes)
        self.all_tuples(living.links)
        if not plain.modes:
            self.refused(Refused, 0, living.network)
            self.assertEqual((living.wrong_sites(), living.obeys(), living.open_ends()), ((), False, ()))
            return
        self.assertEqual(living.network(), Network(plain.modes, sorted(plain.links)))
        wrong = tuple(at for at, view in enumerate(plain.views()) if view not in plain.policy.views)
        self.assertEqual(living.wrong_sites(), wrong)
        self.assertIs(living.obeys(), not wrong)
        self.assertEqual(living.open_ends(), plain.open_ends())
        for site in range(len(plain.modes)):
            self.assertEqual(living.waiting(site), plain.waiting(site))
        self.all_tuples(living.open_ends())

    def test_beside_lists(self):
        rng = dice(791)
        answers = set()
        for at in range(24):
            modes = at % 3 + 1
            policy = Policy(modes, random_policy_views(rng, modes, rng.randint(1, 5 if modes == 1 else 12), most=4))
            living, plain = Living(policy), Plain(policy)
            history = []
            self.same(living, plain)
            for _ in range(80):
                if rng.random() < 0.1:
                    self.assertIs(living.undo(), bool(history))
                    if history:
                        plain = history.pop()
                else:
                    word, values = random_deed(rng, plain)
                    work = {"add": living.add, "turn": living.turn, "link": living.link, "cut": living.cut}[word]
                    answers.add((word, plain.can(word, values)))
                    if plain.can(word, values):
                        history.append(plain.copied())
                        self.assertEqual(work(*values), plain.do(word, values))
                    else:
                        self.refused(Refused, 0, lambda: work(*values))
                self.assertEqual(len(living), len(history))
                self.same(living, plain)
            self.assertEqual(living.policy, policy)
            while history:
                self.assertIs(living.undo(), True)
                plain = history.pop()
                self.same(living, plain)
            self.assertIs(living.undo(), False)
        self.assertEqual(len(answers), 8)

    def test_odd_values(self):
        living = Living(policy=Policy(2, [(0, ())]))
        living.add(mode=0)
        living.add(1)
        for value in ODD + [-1, 2, "0", (0,), [0]]:
            for work in (lambda: living.add(value), lambda: living.turn(value, 0), lambda: living.turn(0, value),
                         lambda: living.link(value, 0), lambda: living.link(0, value), lambda: living.cut(value, 0),
                         lambda: living.cut(0, value), lambda: living.waiting(value)):
                self.refused(Refused, 0, work)
        living.link(one=1, other=0)
        for value in ODD + [-1, 2]:
            self.refused(Refused, 0, lambda: living.cut(value, 0))
            self.refused(Refused, 0, lambda: living.cut(0, value))
        self.assertEqual((living.modes, living.links, len(living)), ((0, 1), ((0, 1),), 3))
        living.cut(one=1, other=0)
        living.turn(site=1, mode=1)
        self.assertEqual((living.modes, living.links, len(living)), ((0, 1), (), 5))
        self.assertIs(living.undo(), True)
        self.assertEqual(len(living), 4)

    def test_fifth_neighbour(self):
        living = Living(Policy(1, all_views(1, 4)))
        for _ in range(7):
            living.add(0)
        for other in (1, 2, 3, 4):
            self.assertIsNone(living.link(0, other))
        self.refused(Refused, 0, lambda: living.link(0, 5))
        self.refused(Refused, 0, lambda: living.link(5, 0))
        self.refused(Refused, 0, lambda: living.link(3, 0))
        living.cut(2, 0)
        self.assertIsNone(living.link(5, 0))
        self.assertEqual(living.links, ((0, 1), (0, 3), (0, 4), (0, 5)))
        for _ in range(100):
            living.add(0)
        self.assertEqual(len(living.network().modes), 107)

    def test_kept_attributes(self):
        living = Living(Policy(1, []))
        living.add(0)
        modes, links = living.modes, living.links
        living.add(0)
        living.link(0, 1)
        self.assertEqual((modes, links), ((0,), ()))
        for value in ODD + [(), [], living.modes, vars(living), 3, Network([0, 0], [(0, 1)])]:
            self.assertIs(living == value, False)


class Within(Case):
    def test_within(self):
        living = Living(Policy(2, [(0, (1,)), (1, (0,))]))
        living.add(0)

        def work(it):
            self.assertIs(it, living)
            it.add(1)
            it.link(0, 1)
            self.assertEqual(len(it), 3)
            self.assertTrue(it.obeys())
            self.assertIs(it.undo(), True)
            self.assertEqual(it.links, ())
            return it.within(inner) + [it.modes, it.links, len(it)]

        def inner(it):
            it.link(0, 1)
            it.turn(0, 1)
            return [it.modes, it.links, it.wrong_sites()]
        self.assertEqual(living.within(work=work), [(1, 1), ((0, 1),), (0, 1), (0, 1), (), 2])
        self.assertEqual((living.modes, living.links, len(living)), ((0,), (), 1))
        self.assertIs(living.undo(), True)
        self.assertIs(living.undo(), False)
        self.assertEqual(living.within(len), 0)
        self.assertIsNone(living.within(lambda it: it.undo() and None or None))

    def test_errors(self):
        living = Living(Policy(2, [(0, ())]))
        living.add(0)

        class Own(Exception):
            pass

        def fails(it):
            it.add(1)
            it.link(0, 1)
            raise Own("told")

        def refused(it):
            it.add(1)
            it.add(1)
            it.add(2)
        with self.assertRaises(Own) as caught:
            living.within(fails)
        self.assertEqual(str(caught.exception), "told")
        self.refused(Refused, 0, lambda: living.within(refused))
        self.assertEqual((living.modes, living.links, len(living)), ((0,), (), 1))

        def outer(it):
            it.add(0)
            try:
                it.within(fails)
            except Own:
                return (it.modes, len(it))
        self.assertEqual(living.within(outer), ((0, 0), 2))
        with self.assertRaises(KeyboardInterrupt):
            living.within(self.stops)
        self.assertEqual((living.modes, len(living)), ((0,), 1))
        self.assertTrue(living.obeys())

    def stops(self, it):
        it.add(0)
        raise KeyboardInterrupt()


class Sums(Case):
    def test_totals(self):
        rng = dice(801)
        kinds = set()
        for at in range(150):
            modes = at % 3 + 1
            plain = Plain(Policy(modes, []))
            living = Living(Policy(modes, []))
            for _ in range(rng.randint(0, 14)):
                word, values = random_deed(rng, plain)
                if plain.can(word, values):
                    plain.do(word, values)
            views = sorted(set(plain.views()))
            policy = Policy(modes, views[at % 4 // 3:])
            living = Living(policy)
            for mode in plain.modes:
                living.add(mode)
            for link in plain.links:
                living.link(*link)
            scores = [rng.randint(-9, 9) for _ in policy.views]
            transfer = [pair(rng.randint(-5, 5)) for _ in range(modes * (modes - 1) // 2)]
            transfer = tuple((top, 1 + rng.randint(0, 1) * (top % 2)) for top, _ in transfer)
            wrong = living.wrong_sites()
            kinds.add((bool(wrong), bool(plain.modes)))
            if wrong:
                self.refused(NotObeyed, wrong[0], lambda: living.total(scores))
                self.refused(NotObeyed, wrong[0], lambda: living.left_at(scores, transfer))
                continue
            worth = [scores[policy.views.index(view)] for view in plain.views()]
            self.assertEqual(living.total(scores), sum(worth))
            told = living.left_at(scores, list(transfer) if at % 2 else transfer)
            self.all_tuples(told)
            lefts = [score - plain_sends(modes, transfer, view) for score, view in zip(worth, plain.views())]
            self.assertEqual([fraction(left) for left in told], lefts)
            self.assertTrue(all(pair(fraction(left)) == left for left in told))
            self.assertEqual(sum(lefts), sum(worth))
        self.assertEqual(kinds, {(True, True), (False, True), (False, False)})

    def test_errors(self):
        policy = Policy(2, [(0, ()), (1, ())])
        for modes in ((), (0,), (0, 1)):
            living = Living(policy)
            for mode in modes:
                living.add(mode)
            if len(modes) == 2:
                living.link(0, 1)
            self.refuses_scores(policy, living.total)
            self.refuses_scores(policy, lambda value: living.left_at(value, None))
            for value in ODD + [(), [(0, 1)] * 2]:
                self.refused(InvalidTransfer, 1, lambda: living.left_at([0, 0], value))
            for odd in (None, (2, 2), [0, 1], 0):
                self.refused(InvalidTransfer, 0, lambda: living.left_at([0, 0], [odd]))
            self.refused(InvalidScore, 1, lambda: living.left_at([0, None], [None]))
        self.refused(NotObeyed, 0, lambda: living.total([0, 0]))
        empty = Living(policy)
        self.assertEqual((empty.total(scores=[1, 2]), empty.left_at(scores=[1, 2], transfer=[(0, 1)])), (0, ()))

    def test_waiting_by_hand(self):
        policy = Policy(3, [(0, (1, 1)), (0, (1, 2)), (1, (0,)), (2, ())])
        living = Living(policy)
        for mode in (0, 1, 2, 1):
            living.add(mode)
        self.assertEqual(living.waiting(site=0), ((0, (1, 1)), (0, (1, 2))))
        self.assertEqual(living.waiting(2), ((2, ()),))
        self.assertEqual(living.open_ends(), ((0, 1, 2), (1, 0, 2)))
        living.link(0, 1)
        self.assertEqual(living.open_ends(), ((0, 1, 1), (1, 0, 1)))
        living.link(0, 2)
        self.assertEqual((living.waiting(0), living.waiting(2), living.open_ends()), (((0, (1, 2)),), (), None))
        living.cut(0, 2)
        living.link(0, 3)
        self.assertEqual((living.open_ends(), living.obeys()), ((), True))


if __name__ == "__main__":
    unittest.main()

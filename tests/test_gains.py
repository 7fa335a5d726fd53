"""[68] to [70]: tables, views at rest, better books, exact weights, worst rests, joint ratios."""

import unittest
from fractions import Fraction
from itertools import product

from judges_more import judge_ratio
from plain import (ODD, Agreeable, Case, dice, fraction, judge_mean, pair, plain_elements, plain_total, random_policy_views,
                   random_network_parts, site_count, told, variations, walked_views)

from handalong.changes import ChangeBook
from handalong.common import joint
from handalong.errors import InvalidQuestion, InvalidScore
from handalong.gains import better_book, exact_weights, gain, is_exact, is_table, rest_policy
from handalong.networks import Network
from handalong.policies import Policy
from handalong.rests import joint_ratio, worst_rest
from handalong.settling import always_ends
from handalong.views import all_views


def random_table(rng, modes, low=-9, high=9):
    return tuple(tuple(rng.randint(low, high) for _ in range(modes)) for _ in range(modes))


def exact_table(rng, modes, most=9):
    """Weights of links, and what only the neighbour's mode decides."""
    rows = [[rng.randint(-most, most) for _ in range(modes)] for _ in range(modes)]
    extra = [rng.randint(-most, most) for _ in range(modes)]
    return tuple(tuple(rows[min(a, b)][max(a, b)] + extra[b] for b in range(modes)) for a in range(modes))


def plain_gain(table, mode, near):
    return sum(table[mode][b] for b in near)


def four_gains(table, a, c, b, e):
    """What two linked sites gain, step by step."""
    one, other = a, b
    amount = 0
    for first, to in ((True, c), (False, e), (True, a), (False, b)):
        if first:
            amount += table[to][other] - table[one][other]
            one = to
        else:
            amount += table[to][one] - table[other][one]
            other = to
    return amount


def judge_exact(table, value):
    many = range(len(table))
    if told(value, "weights", 2):
        rows = value[1]
        if type(rows) is not tuple or len(rows) != len(table) or any(type(r) is not tuple or len(r) != len(table) for r in rows):
            return False
        if any(type(x) is not int for row in rows for x in row) or any(rows[a][b] != rows[b][a] for a in many for b in many):
            return False
        return all(table[c][b] - table[a][b] == rows[c][b] - rows[a][b] for a in many for b in many for c in many)
    if not told(value, "round", 2) or type(value[1]) is not tuple or len(value[1]) != 4:
        return False
    if any(type(x) is not int or x not in many for x in value[1]):
        return False
    return four_gains(table, *value[1]) != 0


class Tables(Case):
    def test_is_table(self):
        rng = dice(681)
        for modes in (1, 2, 3, 4):
            table = random_table(rng, modes, -1000, 1000)
            self.assertIs(is_table(value=table), True)
            wrong = [list(table), table + table, table[:-1] + (list(table[-1]),), table[:-1] + (table[-1] + (0,),),
                     table[:-1] + (table[-1][:-1],), table[1:], table + table[:1]]
            for odd in (None, True, 1.0, "1", 1001, -1001, (1,), Agreeable()):
                wrong.append(table[:-1] + (table[-1][:-1] + (odd,),))
            for value in wrong:
                self.assertIs(is_table(value), False, value)
        self.assertIs(is_table(((1000, -1000), (0, 0))), True)
        for value in ODD + [(), 5, ((0,) * 5,) * 5]:
            self.assertIs(is_table(value), False)

    def test_rest(self):
        rng = dice(682)
        for at in range(40):
            table = random_table(rng, at % 4 + 1, -2, 2)
            sizes = tuple(sorted(rng.sample(range(5), rng.randint(0, 3))))
            views, changes = [], []
            for view in [view for size in sizes for view in all_views(len(table), size)]:
                own = plain_gain(table, *view)
                self.assertEqual(gain(table, view), own)
                better = [to for to in range(len(table)) if plain_gain(table, to, view[1]) > own]
                changes += [view + (to,) for to in better]
                if not better:
                    views.append(view)
            self.assertEqual(rest_policy(table, sizes), Policy(len(table), views))
            self.assertEqual(better_book(table, sizes), ChangeBook(len(table), changes))
            if len(table) == 2:
                self.assertIs(always_ends(better_book(table, sizes)), True)
        self.assertEqual(rest_policy(table=((0, 1), (1, 0)), sizes=()).views, ())
        self.assertEqual(better_book(table=((0, 1), (1, 0)), sizes=()).changes, ())
        self.assertEqual(better_book(((0, 1), (1, 0)), (0, 1)).changes, ((0, (0,), 1), (1, (1,), 0)))
        self.assertEqual(gain(table=((0, 5), (1, 0)), view=(0, (0, 1, 1))), 10)

    def test_refusals(self):
        for value in ODD + [(), ((0, 1),), [[0]], ((0, 1), [1, 0]), ((1001,),), ((True,),)]:
            self.refused(InvalidScore, 0, lambda: rest_policy(value, (1,)))
            self.refused(InvalidScore, 0, lambda: better_book(value, ()))
            self.refused(InvalidScore, 0, lambda: exact_weights(value))


class Exact(Case):
    def test_random_tables(self):
        rng = dice(691)
        words = set()
        for at in range(120):
            modes = at % 4 + 1
            table = exact_table(rng, modes) if at % 3 else random_table(rng, modes, -3, 3)
            if at % 5 == 0 and modes > 1:
                table = table[:-1] + (table[-1][:-1] + (table[-1][-1] + 1,),)
            first = [row for row in product(range(modes), repeat=4) if four_gains(table, *row) != 0][:1]
            answer = exact_weights(table)
            words.add((answer[0], modes))
            if first:
                self.assertEqual(answer, ("round", first[0]))
            self.assertTrue(judge_exact(table, answer), (table, answer))
            self.all_tuples(answer)
            self.assertIs(is_exact(table, answer), True)
            for value in ODD:
                self.assertIs(is_exact(table, value), False)
            for row in product(range(modes), repeat=4):
                self.assertIs(is_exact(table, ("round", row)), judge_exact(table, ("round", row)))
            if answer[0] == "weights":
                more = tuple(tuple(x + 7 for x in row) for row in answer[1])
                self.assertIs(is_exact(table, ("weights", more)), True)
            if at % 4 == 1:
                for value in variations(answer):
                    self.assertIs(is_exact(table, value), judge_exact(table, value), value)
        self.assertLessEqual({("weights", 1), ("weights", 2), ("weights", 3), ("round", 3), ("weights", 4), ("round", 4)}, words)
        self.assertNotIn(("round", 2), words)

    def test_changes_and_weights(self):
        """On networks, what a site gains by its own change is what the weights of its links gain."""
        rng = dice(692)
        for at in range(60):
            table = exact_table(rng, 3)
            rows = exact_weights(table)[1]
            modes, links = random_network_parts(rng, 3, 6)
            site, to = rng.randrange(6), rng.randrange(3)
            near = walked_views(modes, links)[site][1]
            gained = plain_gain(table, to, near) - plain_gain(table, modes[site], near)
            after = modes[:site] + [to] + modes[site + 1:]
            self.assertEqual(gained, sum(rows[after[i]][after[j]] - rows[modes[i]][modes[j]] for i, j in links))

    def test_by_hand(self):
        self.assertEqual(exact_weights(table=((4,),)), ("weights", ((4,),)))
        spin = ((0, 1, -1), (-1, 0, 1), (1, -1, 0))
        self.assertEqual(exact_weights(spin)[0], "round")
        self.assertIs(is_exact(table=spin, value=("round", (0, 1, 0, 2))), four_gains(spin, 0, 1, 0, 2) != 0)
        self.assertIs(is_exact(spin, ("round", (0, 0, 0, 0))), False)
        self.assertIs(is_exact(spin, ("round", (0, 1, 0, 3))), False)
        self.assertIs(is_exact(spin, ("round", [0, 1, 0, 2])), False)


class Rests(Case):
    def test_random_tables(self):
        rng = dice(701)
        kinds = set()
        for at in range(60):
            modes, degree = at % 3 + 1, rng.randint(1, 4 if at % 3 < 2 else 2)
            table = random_table(rng, modes, 0, rng.choice((1, 4)))
            if at % 10 == 9:
                table = ((0,) * modes,) * modes
            answer = worst_rest(table, degree)
            self.all_tuples(answer)
            self.assertEqual((type(answer), len(answer)), (tuple, 3))
            c, low, high = answer
            views = all_views(modes, degree)
            every = Policy(modes, views)
            resting = Policy(modes, [view for view in views if plain_gain(table, *view)
                                     == max(plain_gain(table, to, view[1]) for to in range(modes))])
            gains = [plain_gain(table, *view) for view in resting.views]
            worth = [plain_gain(table, *view) for view in every.views]
            self.assertTrue(judge_mean(resting, gains, low, 1))
            self.assertTrue(judge_mean(every, worth, high, -1))
            if low[0] == "none":
                self.assertIsNone(c)
                kinds.add("none")
            elif not any(any(row) for row in table):
                self.assertEqual(c, (1, 1))
                kinds.add("nought")
            else:
                self.assertEqual(fraction(c), fraction(low[1]) / fraction(high[1]))
                kinds.add("ratio")
                kinds.add(fraction(c) < 1)
            self.assertFalse(low[0] == "none" and plain_elements(resting))
        self.assertLessEqual({"none", "nought", "ratio", True, False}, kinds)

    def test_standings(self):
        """No network at rest is worse, beside any other standing on its links, than told."""
        table = ((2, 1), (0, 3))
        links = [(0, 1), (1, 2), (2, 3), (0, 3), (0, 2), (1, 3)]
        c = fraction(worst_rest(table=table, degree=3)[0])
        rests, ratios = rest_policy(table, (3,)), []
        for modes in product(range(2), repeat=4):
            mine = walked_views(modes, links)
            if all(view in rests.views for view in mine):
                for others in product(range(2), repeat=4):
                    one = sum(plain_gain(table, *view) for view in mine)
                    other = sum(plain_gain(table, *view) for view in walked_views(others, links))
                    self.assertGreaterEqual(one, c * other)
                    ratios.append(Fraction(one, other))
        self.assertEqual(min(ratios), Fraction(2, 3))
        self.assertLessEqual(c, Fraction(2, 3))

    def test_joint_ratio(self):
        rng = dice(703)
        words = set()
        for at in range(80):
            one = Policy(2, random_policy_views(rng, 2, rng.randint(1, 4), most=2))
            other = Policy(at % 2 + 1, random_policy_views(rng, at % 2 + 1, 3, most=2))
            both = joint(one, other)
            if len(both.views) > 12:
                continue
            first = [rng.randint(-3, 6) for _ in one.views]
            second = [rng.choice((0, 0, rng.randint(0, 5))) for _ in other.views]
            if not plain_elements(both):
                self.without_network(lambda: joint_ratio(one, first, other, second))
                words.add("no network")
                continue
            answer = joint_ratio(one, first, other, second)
            firsts, seconds = [], []
            for mode, near in both.views:
                k = other.modes
                firsts.append(first[one.views.index((mode // k, tuple(sorted(x // k for x in near))))])
                seconds.append(second[other.views.index((mode % k, tuple(sorted(x % k for x in near))))])
            self.assertTrue(judge_ratio(both, firsts, seconds, answer))
            words.add(answer[0])
            if answer[0] == "ratio":
                ratios = [Fraction(plain_total(both, firsts, lot), plain_total(both, seconds, lot))
                          for lot in plain_elements(both) if plain_total(both, seconds, lot)]
                self.assertEqual(answer[1], pair(min(ratios)))
        self.assertLessEqual({"no network", "ratio", "none", "every"}, words)

    def test_joint_errors(self):
        three, two = Policy(3, [(0, ())]), Policy(2, [(0, ())])
        self.refused(InvalidQuestion, 1, lambda: joint_ratio(three, [1], two, [1]))
        self.refused(InvalidQuestion, 2, lambda: joint_ratio(two, [1], two, [-1]))
        self.refused(InvalidScore, 1, lambda: joint_ratio(two, [1, 2], two, [1]))
        self.refused(InvalidScore, 0, lambda: joint_ratio(two, [1], two, [None]))
        answer = joint_ratio(one=two, first=[3], other=two, second=[2])
        self.assertEqual(answer[:2], ("ratio", (3, 2)))
        self.assertEqual(site_count(answer[2]), 1)

    def test_two_standings(self):
        """A network of the joint policy is two networks."""
        network = Network([0, 1, 2, 3], [(0, 1), (1, 2), (2, 3)])
        one, other = Policy(2, [(0, (0,)), (0, (0, 1)), (1, (0, 1)), (1, (1,))]), Policy(2, all_views(2, 1) + all_views(2, 2))
        self.assertTrue(all(view in joint(one, other).views for view in network.site_views()))


if __name__ == "__main__":
    unittest.main()

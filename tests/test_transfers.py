"""[18]: transfers and what is left."""

import unittest
from fractions import Fraction

from plain import ODD, Case, PAIRS, all_policies, dice, fraction, pair, plain_lefts, plain_sends, random_network_parts

from handalong.errors import InvalidScore, InvalidTransfer
from handalong.networks import Network
from handalong.policies import Policy
from handalong.transfers import is_transfer, lefts, sends
from handalong.views import all_views


def random_transfer(rng, modes):
    return tuple(pair(Fraction(rng.randint(-9, 9), rng.randint(1, 5))) for _ in PAIRS[modes])


class Transfers(Case):
    def test_is_transfer(self):
        self.assertIs(is_transfer(1, ()), True)
        self.assertIs(is_transfer(2, ((-1, 2),)), True)
        self.assertIs(is_transfer(3, ((0, 1), (5, 3), (-7, 1))), True)
        self.assertIs(is_transfer(modes=4, value=((0, 1),) * 6), True)

    def test_is_no_transfer(self):
        for modes in range(1, 5):
            for length in (0, 1, 2, 3, 4, 5, 6, 7):
                self.assertIs(is_transfer(modes, ((1, 2),) * length), length == len(PAIRS[modes]))
            for value in ODD + [3, [(1, 2)] * len(PAIRS[modes])]:
                self.assertIs(is_transfer(modes, value), False)
        for value in ODD + [3, (2, 4), (1, 0), (1, -1), [1, 2], (True, 1), (1, True), (0, 2), (1, 2, 3), ((1, 2),)]:
            self.assertIs(is_transfer(2, (value,)), False, value)
            self.assertIs(is_transfer(3, ((0, 1), (0, 1), value)), False, value)

    def test_sends_by_hand(self):
        transfer = ((1, 2), (1, 3), (5, 1))
        self.assertEqual(sends(transfer, (0, (0, 1, 1, 2))), (4, 3))
        self.assertEqual(sends(transfer, (1, (0, 0, 1, 2))), (4, 1))
        self.assertEqual(sends(transfer, (2, (0, 1, 2))), (-16, 3))
        self.assertEqual(sends(transfer, (2, ())), (0, 1))
        self.assertEqual(sends((), (0, (0, 0))), (0, 1))
        self.assertEqual(sends(transfer=((-3, 7),), view=(1, (0,))), (3, 7))

    def test_sends_of_all_views(self):
        rng = dice(23)
        for modes in range(1, 5):
            transfer = random_transfer(rng, modes)
            for degree in range(5):
                for view in all_views(modes, degree):
                    self.assertEqual(sends(transfer, view), pair(plain_sends(modes, transfer, view)))

    def test_networks_send_nought(self):
        rng = dice(24)
        for modes in range(1, 5):
            network = Network(*random_network_parts(rng, modes, 40))
            transfer = random_transfer(rng, modes)
            self.assertEqual(sum(fraction(sends(transfer, view)) for view in network.site_views()), 0)

    def test_lefts(self):
        rng = dice(25)
        for policy, scores in all_policies(25, 24):
            transfer = random_transfer(rng, policy.modes)
            plain = tuple(pair(left) for left in plain_lefts(policy, scores, transfer))
            self.assertEqual(lefts(policy, scores, transfer), plain)
            told, listed = list(transfer), list(scores)
            self.assertEqual(lefts(policy=policy, scores=listed, transfer=told), plain)
            self.assertEqual((told, listed), (list(transfer), list(scores)))
        policy = Policy(2, [(0, (1,)), (1, (0, 0))])
        self.assertEqual(lefts(policy, [1, 2], [(1, 2)]), ((1, 2), (3, 1)))
        self.assertEqual(lefts(Policy(3, []), [], [(0, 1)] * 3), ())

    def test_lefts_refuse(self):
        policy = Policy(3, [(0, (1,)), (1, (0, 0))])
        for value in ODD + [3]:
            self.refused(InvalidTransfer, 3, lambda: lefts(policy, [1, 2], value))
            self.refused(InvalidTransfer, 1, lambda: lefts(policy, [1, 2], [(0, 1), value, None]))
            self.refused(InvalidTransfer, 4, lambda: lefts(policy, [1, 2], [(0, 1)] * 4 + [value]))
        for value in [(2, 4), [0, 1], (1, 0), (True, 1), (0, 2), (1, -2), ()]:
            self.refused(InvalidTransfer, 2, lambda: lefts(policy, [1, 2], ((0, 1), (1, 2), value)))
        for length in (0, 1, 2, 4, 6):
            self.refused(InvalidTransfer, 3, lambda: lefts(policy, [1, 2], ((0, 1),) * length))
        self.refused(InvalidTransfer, 0, lambda: lefts(Policy(1, []), [], None))
        self.refused(InvalidTransfer, 0, lambda: lefts(Policy(1, []), [], [(0, 1)]))

    def test_scores_come_first(self):
        policy = Policy(3, [(0, (1,)), (1, (0, 0))])
        for value in ODD + [[1], [1, 2, 3], []]:
            self.refused(InvalidScore, 2, lambda: lefts(policy, value, None))
        self.refused(InvalidScore, 1, lambda: lefts(policy, [0, True], [(0, 1)] * 3))


if __name__ == "__main__":
    unittest.main()

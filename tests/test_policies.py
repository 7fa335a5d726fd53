"""[7]: policies and their scores."""

import unittest

from plain import ODD, Agreeable, Case

from handalong.errors import InvalidPolicy, InvalidQuestion, InvalidScore, InvalidView
from handalong.networks import Network
from handalong.policies import Policy, checked_scores, part
from handalong.views import all_views

A, B, C = (0, (0, 1)), (0, (1, 1)), (1, (0, 0))


class Policies(Case):
    def test_attributes(self):
        policy = Policy(2, [C, A, B])
        self.assertEqual((policy.modes, policy.views), (2, (A, B, C)))
        self.assertIs(type(policy.views), tuple)
        self.assertEqual(Policy(modes=1, views=()).views, ())
        self.assertEqual(Policy(4, [(3, (0, 3))]).views, ((3, (0, 3)),))

    def test_later_changes_have_no_effect(self):
        views = [B, A]
        policy = Policy(2, views)
        views.append(C)
        self.assertEqual(policy.views, (A, B))
        self.assertIsNone(policy.spot(C))
        self.assertEqual(views, [B, A, C])

    def test_equal(self):
        self.assertTrue(Policy(2, [A, B]) == Policy(2, (B, A)))
        self.assertTrue(Policy(2, [A, B]) != Policy(3, [A, B]))
        self.assertTrue(Policy(2, [A]) != Policy(2, [A, B]))
        for value in ODD + [(2, (A, B)), [A, B], (A, B), Network([0], []), 2]:
            self.assertFalse(Policy(2, [A, B]) == value)
            if not isinstance(value, Agreeable):
                self.assertFalse(value == Policy(2, [A, B]))
            self.assertTrue(Policy(2, [A, B]) != value)

    def test_wrong_modes_come_first(self):
        for value in ODD + [0, 5, -1, (), [1], 2.0]:
            self.refused(InvalidPolicy, 0, lambda: Policy(value, []))
            self.refused(InvalidPolicy, 0, lambda: Policy(value, None))
            self.refused(InvalidPolicy, 0, lambda: Policy(value, [None]))

    def test_wrong_views(self):
        for value in ODD + [7]:
            self.refused(InvalidView, 0, lambda: Policy(2, value))
            self.refused(InvalidView, 2, lambda: Policy(2, [A, B, value, None]))
        self.refused(InvalidView, 1, lambda: Policy(2, (A, (0, (1, 0)))))
        self.refused(InvalidView, 1, lambda: Policy(2, (A, (0, [0, 0]))))
        self.refused(InvalidView, 1, lambda: Policy(2, (A, [0, (0, 0)])))
        self.refused(InvalidView, 0, lambda: Policy(2, [(2, ())]))
        self.refused(InvalidView, 1, lambda: Policy(2, [A, (0, (0, 2))]))
        self.refused(InvalidView, 0, lambda: Policy(1, [(0, (1,))]))
        self.refused(InvalidView, 0, lambda: Policy(2, [(True, (0,))]))

    def test_twice_is_told_at_the_second(self):
        self.refused(InvalidView, 2, lambda: Policy(2, [A, B, A, None]))
        self.refused(InvalidView, 1, lambda: Policy(2, [A, A]))
        self.refused(InvalidView, 1, lambda: Policy(2, [A, None, A]))

    def test_spot(self):
        policy = Policy(2, [C, B, A])
        self.assertEqual([policy.spot(view) for view in (A, B, C)], [0, 1, 2])
        self.assertEqual(policy.spot(view=B), 1)
        for value in ODD + [(1, (1, 1)), (False, (0, 1)), (0, (False, True)), (0, [0, 1]), [0, (0, 1)], (1, (0, 0), 0),
                            (0, (1, 0)), (0.0, (0, 1)), (0, (0.0, 1.0)), ([], {}), 0, -1]:
            self.assertIsNone(policy.spot(value))
        self.assertIsNone(Policy(1, []).spot((0, ())))

    def test_many_views(self):
        views = [view for degree in range(5) for view in all_views(3, degree)]
        policy = Policy(3, reversed_list(views))
        self.assertEqual(policy.views, tuple(sorted(views)))
        self.assertEqual([policy.spot(view) for view in policy.views], list(range(105)))

    def test_part(self):
        policy = Policy(2, [A, B, C])
        self.assertEqual(part(policy, [2, 0]), Policy(2, [A, C]))
        self.assertEqual(part(policy, (1, 1, 1)), Policy(2, [B]))
        self.assertEqual(part(policy=policy, places=[]), Policy(2, []))
        self.assertEqual(part(policy, [0, 1, 2, 0]), policy)
        self.assertEqual(policy.views, (A, B, C))

    def test_part_refuses(self):
        policy = Policy(2, [A, B, C])
        for value in ODD + [5]:
            self.refused(InvalidQuestion, 0, lambda: part(policy, value))
            if value != 1:
                self.refused(InvalidQuestion, 1, lambda: part(policy, [0, value if value != 5 else 3, -1]))
        self.refused(InvalidQuestion, 1, lambda: part(policy, [0, True]))
        self.refused(InvalidQuestion, 2, lambda: part(policy, (0, 2, -1, 3)))
        self.refused(InvalidQuestion, 0, lambda: part(policy, [3]))

    def test_checked_scores(self):
        policy = Policy(2, [A, B, C])
        self.assertEqual(checked_scores(policy, [1, -1000, 1000]), (1, -1000, 1000))
        self.assertEqual(checked_scores(policy=policy, scores=(0, 0, 0)), (0, 0, 0))
        self.assertEqual(checked_scores(Policy(3, []), []), ())
        self.assertIs(type(checked_scores(policy, [1, 2, 3])), tuple)

    def test_wrong_scores(self):
        policy = Policy(2, [A, B, C])
        for value in ODD + [4]:
            self.refused(InvalidScore, 3, lambda: checked_scores(policy, value))
        for value in ODD + [(), (1, 2)]:
            self.refused(InvalidScore, 1, lambda: checked_scores(policy, [0, value, None]))
            self.refused(InvalidScore, 4, lambda: checked_scores(policy, [0, 1, 2, 3, value]))
            self.refused(InvalidScore, 0, lambda: checked_scores(policy, [value]))
        for length in (0, 1, 2, 4, 9):
            self.refused(InvalidScore, 3, lambda: checked_scores(policy, [5] * length))
        self.refused(InvalidScore, 0, lambda: checked_scores(Policy(2, []), None))
        self.refused(InvalidScore, 0, lambda: checked_scores(Policy(2, []), [1]))


def reversed_list(values):
    return list(reversed(values))


if __name__ == "__main__":
    unittest.main()

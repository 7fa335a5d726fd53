"""[6]: modes and views."""

import unittest
from itertools import product

from plain import ODD

from handalong.errors import InvalidView
from handalong.views import all_views, is_view, made_view, seen


class Views(unittest.TestCase):
    def test_all_are_views(self):
        for mode in range(4):
            for size in range(5):
                for row in product(range(4), repeat=size):
                    self.assertIs(is_view((mode, row)), list(row) == sorted(row))

    def test_no_views(self):
        wrong = [(0, [0, 1]), [0, (0, 1)], (0, (0, 0, 0, 0, 0)), (4, ()), (-1, ()), (0, (4,)), (0, (-1, 0)), (0,), (),
                 (0, (), ()), (True, ()), (False, (0,)), (0, (True,)), (0, (False, 1)), (0.0, ()), (0, (0.0,)),
                 ("0", ()), (0, "00"), (0, ("0",)), (0, None), (None, ()), (0, 0), ((), 0), (0, ((),)), "0", 0]
        for value in wrong + ODD:
            self.assertIs(is_view(value), False, value)

    def test_made_view_orders(self):
        self.assertEqual(made_view(1, [3, 0, 2, 0]), (1, (0, 0, 2, 3)))
        self.assertEqual(made_view(0, (1, 0)), (0, (0, 1)))
        self.assertEqual(made_view(3, []), (3, ()))
        self.assertEqual(made_view(mode=2, neighbours=(2, 1)), (2, (1, 2)))
        row = [2, 1]
        view = made_view(0, row)
        row.append(3)
        self.assertEqual(view, (0, (1, 2)))
        self.assertIs(type(view[1]), tuple)

    def test_made_view_refuses(self):
        wrong = [(4, ()), (-1, ()), (True, ()), (0, (4,)), (0, (-1,)), (0, (True,)), (0, (0, 0, 0, 0, 0)), (0, "01"),
                 (0, (0, "1")), (0, (0, None)), (0, 5), (0, ([],)), ([], ())]
        wrong += [(value, ()) for value in ODD] + [(0, value) for value in ODD] + [(0, [value]) for value in ODD]
        for mode, neighbours in wrong:
            with self.assertRaises(InvalidView) as caught:
                made_view(mode, neighbours)
            self.assertEqual(caught.exception.at, 0)

    def test_all_views(self):
        for modes in range(1, 5):
            for degree in range(5):
                rows = {tuple(sorted(row)) for row in product(range(modes), repeat=degree)}
                self.assertEqual(all_views(modes, degree), tuple(sorted(product(range(modes), rows))))
        self.assertEqual(all_views(2, 1), ((0, (0,)), (0, (1,)), (1, (0,)), (1, (1,))))
        self.assertEqual(all_views(modes=1, degree=0), ((0, ()),))
        self.assertEqual(len(all_views(4, 4)), 4 * 35)

    def test_seen(self):
        self.assertEqual([seen((2, (0, 0, 1, 3)), mode) for mode in range(4)], [2, 1, 0, 1])
        self.assertEqual(seen((2, ()), 2), 0)
        self.assertEqual(seen(view=(0, (0, 0, 0, 0)), mode=0), 4)


if __name__ == "__main__":
    unittest.main()

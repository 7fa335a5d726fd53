"""[1], [5]: integers and fractions."""

import unittest
from fractions import Fraction

from plain import ODD, fraction, pair

from handalong.errors import InvalidQuestion
from handalong.ratios import added, compared, is_fraction, less, made, times

SOME = [(0, 1), (1, 1), (-1, 1), (1, 2), (-1, 2), (2, 3), (-7, 3), (5, 6), (1000000, 7), (10**30 + 1, 10**29)]


class Fractions(unittest.TestCase):
    def test_is_fraction(self):
        for value in SOME:
            self.assertIs(is_fraction(value), True)

    def test_is_no_fraction(self):
        wrong = [(0, 2), (2, 4), (-2, 4), (1, 0), (0, 0), (1, -1), (-1, -2), (0, -1), (1,), (1, 2, 3), (), [1, 2],
                 (True, 1), (1, True), (False, 1), (1.0, 1), (1, 2.0), ("1", "2"), "12", (None, 1), ((1, 2), 1), 3, 0]
        for value in wrong + ODD:
            self.assertIs(is_fraction(value), False, value)

    def test_made_in_lowest_terms(self):
        for top in range(-12, 13):
            for bottom in list(range(-12, 0)) + list(range(1, 13)):
                value = made(top, bottom)
                self.assertEqual(value, pair(Fraction(top, bottom)))
                self.assertIs(is_fraction(value), True)
        self.assertEqual(made(6, -4), (-3, 2))
        self.assertEqual(made(0, -5), (0, 1))
        self.assertEqual(made(10**40, 10**39 * 2), (5, 1))
        self.assertEqual(made(top=2, bottom=6), (1, 3))

    def test_made_refuses_nought_below(self):
        for top in (-1, 0, 3):
            with self.assertRaises(InvalidQuestion) as caught:
                made(top, 0)
            self.assertEqual(caught.exception.at, 1)

    def test_sums_products_order(self):
        for one in SOME:
            for other in SOME:
                x, y = fraction(one), fraction(other)
                self.assertEqual(added(one, other), pair(x + y))
                self.assertEqual(less(one, other), pair(x - y))
                self.assertEqual(times(one, other), pair(x * y))
                self.assertEqual(compared(one, other), (x > y) - (x < y))
        self.assertEqual(less(one=(1, 2), other=(1, 3)), (1, 6))
        self.assertEqual(added(one=(1, 2), other=(1, 2)), (1, 1))
        self.assertEqual(times(one=(2, 3), other=(3, 2)), (1, 1))
        self.assertEqual(compared(one=(2, 3), other=(3, 2)), -1)

    def test_compared_is_by_value(self):
        self.assertEqual(compared((1, 2), (1, 3)), 1)
        self.assertEqual(compared((-1, 2), (-1, 3)), -1)
        self.assertEqual(compared((3, 7), (3, 7)), 0)


if __name__ == "__main__":
    unittest.main()

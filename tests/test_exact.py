"""Linear equations and integer multiples, which several promises rest on."""

import unittest
from fractions import Fraction
from itertools import product

from plain import Case, dice, fraction

from handalong.exact import null_rows, reduced_basis, solution
from handalong.wholes import met, staircase


def random_rows(rng, many, width, most=3):
    return [tuple(rng.randint(-most, most) for _ in range(width)) for _ in range(many)]


def dot(row, other):
    return sum(x * y for x, y in zip(row, other))


def is_whole_sum(rest, row):
    """Whether a row is a sum of integer multiples of rows that are independent."""
    found = solution([tuple(one[at] for one in rest) + (row[at],) for at in range(len(row))], len(rest))
    return found is not None and all(bottom == 1 for _, bottom in found)


class Exact(Case):
    def test_bases(self):
        rng = dice(1)
        for _ in range(200):
            rows = random_rows(rng, rng.randint(0, 5), 4)
            basis = reduced_basis(rows)
            for place, row in basis:
                self.assertTrue(row[place] > 0 and not any(row[:place]))
                self.assertTrue(all(other is row or other[place] == 0 for _, other in basis))
            self.assertEqual([place for place, _ in basis], sorted(place for place, _ in basis))
            nulls = null_rows(rows, 4)
            self.assertEqual(len(nulls) + len(basis), 4)
            self.assertEqual(len(reduced_basis(nulls)), len(nulls))
            self.assertTrue(all(dot(row, null) == 0 for row in rows for null in nulls))

    def test_solutions(self):
        rng = dice(2)
        seen = set()
        for _ in range(300):
            rows = random_rows(rng, rng.randint(0, 4), 4)
            found = solution(rows, 3)
            seen.add(found is None)
            if found is None:
                self.assertIn((3, (0, 0, 0, 1)), reduced_basis(rows))
            else:
                for *row, number in rows:
                    self.assertEqual(dot(row, map(fraction, found)), number)
        self.assertEqual(seen, {True, False})


class Wholes(Case):
    def test_staircases(self):
        rng = dice(3)
        for _ in range(60):
            rows = random_rows(rng, rng.randint(1, 4), rng.randint(1, 3))
            steps, rest = staircase(rows)
            leads = [next(at for at, number in enumerate(row) if number) for row, _ in steps]
            self.assertEqual(leads, sorted(set(leads)))
            for row, multiples in steps:
                self.assertEqual(tuple(dot(multiples, column) for column in zip(*rows)), row)
            for multiples in rest:
                self.assertFalse(any(dot(multiples, column) for column in zip(*rows)))
            self.assertEqual(len(steps) + len(rest), len(rows))
            for multiples in product(range(-3, 4), repeat=len(rows)):
                if not any(dot(multiples, column) for column in zip(*rows)):
                    self.assertTrue(is_whole_sum(rest, multiples))

    def test_fractions_that_are_met(self):
        rng = dice(4)
        for _ in range(100):
            rows = random_rows(rng, rng.randint(1, 4), 4)
            steps, _ = staircase(rows)
            targets = [(rng.randint(-5, 5), 1) for _ in steps]
            start = [(rng.randint(-5, 5), 1) for _ in range(4)]
            found = met(steps, targets, start)
            leads = [next(at for at, number in enumerate(row) if number) for row, _ in steps]
            for (row, _), target in zip(steps, targets):
                self.assertEqual(dot(row, map(fraction, found)), Fraction(*target))
            self.assertTrue(all(found[at] == start[at] for at in range(4) if at not in leads))


if __name__ == "__main__":
    unittest.main()

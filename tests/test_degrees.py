"""[12], [13]: rows and two-sided rows."""

import unittest
from collections import Counter
from itertools import product

from plain import degrees, dice, sided_degrees, sided_graphs, simple_graphs

from handalong.degrees import row_fault, row_graph, row_graph_count, sides_fault, sides_graph, sides_graph_count
from handalong.errors import Refused


def plain_fault(row):
    """The fault of a row, by the words of the document."""
    if sum(row) % 2:
        return 0
    ordered = sorted(row, reverse=True)
    for k in range(1, len(row) + 1):
        if sum(ordered[:k]) > k * (k - 1) + sum(min(number, k) for number in ordered[k:]):
            return k
    return None


def plain_sides_fault(left, right):
    """The fault of two-sided rows, by the words of the document."""
    if sum(left) != sum(right):
        return 0
    ordered = sorted(left, reverse=True)
    for k in range(1, len(left) + 1):
        if sum(ordered[:k]) > sum(min(number, k) for number in right):
            return k
    return None


class Rows(unittest.TestCase):
    def check_graph(self, row):
        graph = row_graph(row)
        self.assertIs(type(graph), tuple)
        self.assertEqual(list(graph), sorted(set(graph)))
        self.assertTrue(all(type(p) is tuple and 0 <= p[0] < p[1] < len(row) for p in graph))
        self.assertEqual(degrees(len(row), graph), tuple(row))

    def check(self, row):
        fault = plain_fault(row)
        self.assertEqual(row_fault(row), fault, row)
        if fault is None:
            self.check_graph(row)
        else:
            with self.assertRaises(Refused) as caught:
                row_graph(row)
            self.assertEqual(caught.exception.at, fault)

    def test_all_short_rows(self):
        for n in range(5):
            known = Counter(degrees(n, graph) for graph in simple_graphs(n))
            for row in product(range(n + 2), repeat=n):
                self.check(row)
                self.assertEqual(row_fault(row) is None, row in known)
                self.assertEqual(row_graph_count(row), known[row], row)

    def test_rows_of_five_and_six(self):
        known = Counter(degrees(5, graph) for graph in simple_graphs(5))
        for row in product(range(5), repeat=5):
            self.assertEqual(row_graph_count(list(row)), known[row])
            self.check(row)
        known = Counter(degrees(6, graph) for graph in simple_graphs(6))
        for row in list(known)[::40]:
            self.assertEqual(row_graph_count(row), known[row])

    def test_by_hand(self):
        self.assertIsNone(row_fault([]))
        self.assertEqual(row_graph([]), ())
        self.assertEqual(row_graph_count([]), 1)
        self.assertEqual(row_graph((1, 1)), ((0, 1),))
        self.assertEqual(row_graph([0, 2, 1, 1]), ((1, 2), (1, 3)))
        self.assertEqual(row_fault((1,)), 0)
        self.assertEqual(row_fault((2,)), 1)
        self.assertEqual(row_fault([3, 3, 1, 1]), 2)
        self.assertEqual(row_fault(row=(0, 0)), None)
        self.assertEqual(row_graph(row=(0, 0)), ())
        self.assertEqual(row_graph_count(row=[1, 1, 1, 1]), 3)

    def test_known_counts_of_eight(self):
        # Graphs with numbered points: 3 links at each of 8 points, 4 at each, 1 at each, 2 at each.
        self.assertEqual(row_graph_count([3] * 8), 19355)
        self.assertEqual(row_graph_count([4] * 8), 19355)
        self.assertEqual(row_graph_count([1] * 8), 105)
        self.assertEqual(row_graph_count([6] * 8), 105)
        self.assertEqual(row_graph_count([2] * 8), 3507)
        self.assertEqual(row_graph_count([7] * 8), 1)
        self.assertEqual(row_graph_count([8] * 8), 0)
        self.assertEqual(row_graph_count([64] * 8), 0)
        self.assertEqual(row_graph_count([7, 1, 1, 1, 1, 1, 1, 1]), 1)
        self.assertEqual(row_graph_count([3, 0, 0, 0, 0, 0, 0, 3]), 0)

    def test_long_rows(self):
        rng = dice(14)
        self.check([63] * 64)
        self.check([64] * 64)
        self.check([64] + [1] * 63)
        self.check([63] + [1] * 63)
        self.check(list(range(64)))
        self.check(sorted([k // 2 for k in range(2, 66)]))
        for _ in range(150):
            most = rng.choice([2, 5, 20, 40, 64])
            row = [rng.randint(0, most) for _ in range(rng.randint(1, 64))]
            self.check(row)
            self.check(tuple(row))
        for most in (3, 10, 30):
            pairs = [(i, j) for i in range(64) for j in range(i) if rng.random() * 64 < most]
            row = degrees(64, pairs)
            self.assertIsNone(row_fault(row))
            self.check_graph(row)

    def test_the_row_is_kept(self):
        row = [2, 2, 2]
        self.assertEqual(row_graph(row), ((0, 1), (0, 2), (1, 2)))
        self.assertEqual((row_fault(row), row_graph_count(row), row), (None, 1, [2, 2, 2]))


class Sides(unittest.TestCase):
    def check(self, left, right):
        fault = plain_sides_fault(left, right)
        self.assertEqual(sides_fault(left, right), fault, (left, right))
        if fault is not None:
            with self.assertRaises(Refused) as caught:
                sides_graph(left, right)
            self.assertEqual(caught.exception.at, fault)
            return
        graph = sides_graph(left, right)
        self.assertIs(type(graph), tuple)
        self.assertEqual(list(graph), sorted(set(graph)))
        self.assertTrue(all(type(p) is tuple and len(p) == 2 for p in graph))
        self.assertEqual(sided_degrees(len(left), len(right), graph), (tuple(left), tuple(right)))

    def test_all_short_rows(self):
        for m in range(4):
            for n in range(4):
                known = Counter(sided_degrees(m, n, graph) for graph in sided_graphs(m, n))
                for left in product(range(n + 2 if n < 3 else 4), repeat=m):
                    for right in product(range(m + 2 if m < 3 else 4), repeat=n):
                        self.check(left, right)
                        self.assertEqual(sides_fault(left, right) is None, (left, right) in known)
                        self.assertEqual(sides_graph_count(left, right), known[left, right])

    def test_by_hand(self):
        self.assertEqual(sides_graph([], []), ())
        self.assertEqual(sides_graph_count([], []), 1)
        self.assertIsNone(sides_fault([], [0, 0]))
        self.assertEqual(sides_fault([], [1]), 0)
        self.assertEqual(sides_graph_count([], [1]), 0)
        self.assertEqual(sides_graph_count([1], []), 0)
        self.assertEqual(sides_graph_count([0], []), 1)
        self.assertEqual(sides_graph(left=[1, 1], right=[2]), ((0, 0), (1, 0)))
        self.assertEqual(sides_fault(left=[2, 0], right=[2]), 1)
        self.assertEqual(sides_fault([2, 2, 0], [3, 1]), 2)
        self.assertEqual(sides_graph_count(left=[1, 1, 1, 1], right=[1, 1, 1, 1]), 24)
        self.assertEqual(sides_graph_count([2, 2, 2, 2], [2, 2, 2, 2]), 90)
        self.assertEqual(sides_graph_count([3, 1, 1, 1, 1], [3, 3, 1]), 6)
        self.assertEqual(sides_graph_count([1] * 7, [7]), 1)
        self.assertEqual(sides_graph_count([64], [1] * 7), 0)

    def test_four_by_four(self):
        known = Counter(sided_degrees(4, 4, graph) for graph in sided_graphs(4, 4))
        for left, right in list(known)[::29]:
            self.check(left, right)
            self.assertEqual(sides_graph_count(left, right), known[left, right])

    def test_long_rows(self):
        rng = dice(15)
        self.check([64] * 64, [64] * 64)
        self.check([64] * 63 + [63], [64] * 64)
        self.check([64] + [0] * 63, [1] * 64)
        self.check([64, 0], [2] * 32)
        for _ in range(150):
            most = rng.choice([2, 6, 30, 64])
            left = [rng.randint(0, most) for _ in range(rng.randint(0, 64))]
            right = [rng.randint(0, most) for _ in range(rng.randint(0, 64))]
            self.check(left, right)
            if sum(left) >= sum(right) and right:
                right[0] += sum(left) - sum(right)
                self.check(left, right)
        for share in (3, 20, 50):
            graph = [(i, j) for i in range(40) for j in range(64) if rng.random() * 64 < share]
            left, right = sided_degrees(40, 64, graph)
            self.assertIsNone(sides_fault(left, right))
            self.check(list(left), right)
            self.check(right, list(left))

    def test_the_rows_are_kept(self):
        left, right = [1, 2], [2, 1]
        self.assertEqual(sides_graph(left, right), ((0, 0), (1, 0), (1, 1)))
        self.assertEqual((sides_fault(left, right), sides_graph_count(left, right)), (None, 1))
        self.assertEqual((left, right), ([1, 2], [2, 1]))


if __name__ == "__main__":
    unittest.main()

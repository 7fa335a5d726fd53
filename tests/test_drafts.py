"""[17]: drafts and their untangled copies."""

import unittest
from collections import Counter

from plain import dice, half, random_policy_views, walked_views

from handalong.drafts import copies_needed, draft_of, draft_views, untangled
from handalong.errors import Refused
from handalong.networks import Network


def random_draft(rng, modes, many, tries):
    """Some draft whose sites may be linked to themselves and several times."""
    told = [rng.randrange(modes) for _ in range(many)]
    near = [0] * many
    links = []
    for _ in range(tries):
        i, j = sorted((rng.randrange(many), rng.randrange(many)))
        near[i] += 1
        near[j] += 1
        if max(near) > 4:
            near[i] -= 1
            near[j] -= 1
        else:
            links.append((i, j))
    return told, links


class Drafts(unittest.TestCase):
    def check_untangled(self, draft):
        modes, links = draft
        n = len(modes)
        counts = Counter((i, j) for i, j in links)
        needed = max([1] + [2 * many + 1 if i == j else many for (i, j), many in counts.items()])
        self.assertEqual(copies_needed(draft), needed)
        plain = set()
        for (u, v), many in counts.items():
            for i in range(needed):
                for j in range(many):
                    turn = j + 1 if u == v else j
                    plain.add(tuple(sorted((u + n * i, v + n * ((i + turn) % needed)))))
        network = untangled(draft)
        self.assertEqual(network, Network(list(modes) * needed, sorted(plain)))
        self.assertEqual(len(network.links), needed * len(links))
        self.assertEqual(network.site_views(), draft_views(draft) * needed)

    def test_views(self):
        draft = ([0, 1, 2], [(0, 0), (0, 1), (0, 1), (1, 2)])
        self.assertEqual(draft_views(draft), ((0, (0, 0, 1, 1)), (1, (0, 0, 2)), (2, (1,))))
        self.assertEqual(draft_views(draft=((3,), ())), ((3, ()),))
        self.assertEqual(draft_views(((1,), ((0, 0), (0, 0)))), ((1, (1, 1, 1, 1)),))
        self.assertEqual(draft, ([0, 1, 2], [(0, 0), (0, 1), (0, 1), (1, 2)]))

    def test_copies_needed(self):
        self.assertEqual(copies_needed(([0, 0], [])), 1)
        self.assertEqual(copies_needed(([0, 0], [(0, 1)])), 1)
        self.assertEqual(copies_needed(([0, 0], [(0, 1)] * 3)), 3)
        self.assertEqual(copies_needed(([0, 0], [(0, 1)] * 4)), 4)
        self.assertEqual(copies_needed(([0, 0], [(1, 1)])), 3)
        self.assertEqual(copies_needed(([0, 0], [(1, 1), (1, 1)])), 5)
        self.assertEqual(copies_needed(draft=([0, 0, 0], [(0, 1)] * 2 + [(1, 2)])), 2)

    def test_untangled_by_hand(self):
        self.assertEqual(untangled(([2], [(0, 0)])), Network([2] * 3, [(0, 1), (1, 2), (0, 2)]))
        self.assertEqual(untangled(((0, 1), ((0, 1), (0, 1)))), Network([0, 1, 0, 1], [(0, 1), (2, 3), (0, 3), (2, 1)]))
        self.assertEqual(untangled(draft=([1], [])), Network([1], []))
        self.assertEqual(untangled(([0], [(0, 0), (0, 0)])), Network([0] * 5, [(i, j) for j in range(5) for i in range(j)]))

    def test_untangled(self):
        rng = dice(21)
        for many in (1, 2, 3, 7, 64):
            for modes in (1, 2, 4):
                for tries in (1, 5, 300):
                    self.check_untangled(random_draft(rng, modes, many, tries))
        draft = (tuple(rng.randrange(4) for _ in range(64)), tuple((at, at) for at in range(64) for _ in range(2)))
        self.check_untangled(draft)
        self.check_untangled((list(draft[0]), list(draft[1])))
        self.assertEqual(len(untangled(draft).modes), 320)

    def check_draft(self, plan):
        counted = Counter(plan).items()
        told = all(half(counted, a, b) == half(counted, b, a) for a in range(4) for b in range(a))
        even = all(half(counted, a, a) % 2 == 0 for a in range(4))
        if not told or not even:
            with self.assertRaises(Refused) as caught:
                draft_of(plan)
            self.assertEqual(caught.exception.at, 0)
            return False
        draft = draft_of(plan)
        modes, links = draft
        self.assertEqual([type(draft), type(modes), type(links)], [tuple] * 3)
        self.assertEqual(modes, tuple(view[0] for view in plan))
        self.assertEqual(list(links), sorted(links))
        self.assertTrue(all(type(link) is tuple and link[0] <= link[1] for link in links))
        self.assertEqual(draft_views(draft), tuple(plan))
        self.assertEqual(walked_views(modes, links), tuple(plan))
        self.check_untangled(draft)
        return True

    def test_draft_of(self):
        rng = dice(22)
        made = 0
        for _ in range(300):
            modes = rng.choice((1, 2, 3))
            views = random_policy_views(rng, modes, 2)
            made += self.check_draft([rng.choice(views) for _ in range(rng.randint(1, 6))])
        self.assertGreater(made, 60)
        for many in (1, 2, 9, 64):
            for modes in (1, 2, 3, 4):
                self.assertTrue(self.check_draft(walked_views(*random_draft(rng, modes, many, 300))))

    def test_draft_of_by_hand(self):
        self.assertEqual(draft_of([(0, (0, 0))]), ((0,), ((0, 0),)))
        self.assertEqual(draft_of([(0, (1, 1)), (1, (0, 0))]), ((0, 1), ((0, 1), (0, 1))))
        self.assertEqual(draft_of([(1, (0,)), (0, (1,))]), ((1, 0), ((0, 1),)))
        self.assertEqual(draft_of(plan=((3, ()),)), ((3,), ()))

    def test_draft_of_refuses(self):
        for plan in [[(0, (0,))], [(0, (0, 0, 0))] * 3, [(0, (1,))], [(0, (1,)), (1, (0, 0))], [(0, (0,)), (1, (1,))],
                     [(0, (0, 0)), (3, (3,))]]:
            self.assertFalse(self.check_draft(plan))


if __name__ == "__main__":
    unittest.main()

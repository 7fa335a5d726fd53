"""[64], [65]: books of changes and their plays; weighings, effects, room."""

import unittest

from plain import ODD, Agreeable, Case, dice, random_network_parts, walked_views

from handalong.changes import ChangeBook
from handalong.errors import InvalidPolicy, InvalidQuestion, InvalidRule
from handalong.networks import Network
from handalong.views import all_views
from handalong.weighings import effect, is_weighing, room, weight


def random_book(rng, modes, many, most=4):
    """A book of up to so many changes."""
    pool = [view + (to,) for degree in range(most + 1) for view in all_views(modes, degree)
            for to in range(modes) if to != view[0]]
    found = rng.sample(pool, min(many, len(pool)))
    rows = [list(change) for change in found]
    rng.shuffle(rows)
    for row in rows:
        row[1] = rng.sample(row[1], len(row[1]))
    return ChangeBook(modes, rows)


def plain_possible(book, modes, links):
    views = walked_views(modes, links)
    return tuple((site, to) for site in range(len(modes)) for to in range(4) if views[site] + (to,) in book.changes)


def random_weighing(rng, modes, most=9):
    links = [[rng.randint(-most, most) for _ in range(modes)] for _ in range(modes)]
    table = tuple(tuple(links[min(a, b)][max(a, b)] for b in range(modes)) for a in range(modes))
    return (table, tuple(tuple(rng.randint(-most, most) for _ in range(modes)) for _ in range(5)))


def plain_weight(weighing, modes, links):
    links_told, sites = weighing
    near = [0] * len(modes)
    amount = 0
    for i, j in links:
        near[i] += 1
        near[j] += 1
        amount += links_told[modes[i]][modes[j]]
    return amount + sum(sites[k][a] for k, a in zip(near, modes))


class Books(Case):
    def test_attributes(self):
        book = ChangeBook(modes=3, changes=[[1, [2, 0], 0], (0, (), 2), (1, (0, 2), 2)])
        self.assertEqual(book.changes, ((0, (), 2), (1, (0, 2), 0), (1, (0, 2), 2)))
        self.assertEqual(book.modes, 3)
        self.all_tuples(book.changes)
        self.assertEqual(ChangeBook(1, ()).changes, ())
        rows = [[1, [0], 0]]
        other = ChangeBook(2, rows)
        rows[0][1].append(1)
        rows.append(None)
        self.assertEqual(other.changes, ((1, (0,), 0),))

    def test_equality(self):
        books = [ChangeBook(2, []), ChangeBook(3, []), ChangeBook(2, [(0, (), 1)]), ChangeBook(2, [(0, (1,), 1)])]
        for at, one in enumerate(books):
            for place, other in enumerate(books):
                self.assertIs(one == other, at == place)
                self.assertIs(one != other, at != place)
            self.assertTrue(one == ChangeBook(one.modes, list(one.changes)))
            for value in ODD + [(one.modes, one.changes), one.changes, vars(one), ()]:
                self.assertIs(one == value, False)
                if not isinstance(value, Agreeable):
                    self.assertIs(value == one, False)

    def test_errors(self):
        for value in ODD + [0, 5, -1, "2", (2,)]:
            self.refused(InvalidPolicy, 0, lambda: ChangeBook(value, None))
        for value in ODD:
            self.refused(InvalidRule, 0, lambda: ChangeBook(2, value))
        good = [(0, (0, 1), 1), [1, [1, 0], 0]]
        wrong = ODD + [(), (0, (0, 1)), (0, (0, 1), 1, 0), (0, (0, 1), 0), (2, (0, 1), 0), (0, (0, 2), 1), (0, (0, 1), 2),
                       (0, (0,) * 5, 1), (True, (0,), 0), (0, (False,), 1), (0, (0,), True), (0, "01", 1), (0, 1, 1),
                       (0, {0: 1}, 1), (0, (-1,), 1), (-1, (), 0), (0, (), -1), (0, (0.0,), 1), (0, (0, 1), 1), (1, (0, 1), 0)]
        for value in wrong:
            self.refused(InvalidRule, 2, lambda: ChangeBook(2, good + [value, None]))
            self.refused(InvalidRule, 2, lambda: ChangeBook(2, tuple(good) + (value,)))
        self.refused(InvalidRule, 0, lambda: ChangeBook(1, [(0, (), 1)]))

    def test_plays(self):
        """Step by step, on random networks."""
        rng = dice(641)
        lengths = set()
        for at in range(150):
            modes, links = random_network_parts(rng, at % 3 + 1, rng.randint(1, 8))
            book = random_book(rng, 3, 60, most=3)
            network = Network(modes, links)
            now = list(modes)
            steps = []
            for _ in range(6):
                choices = plain_possible(book, now, links)
                told = book.possible(Network(now, links))
                self.assertEqual(told, choices)
                self.all_tuples(told)
                if not choices:
                    break
                steps.append(rng.choice(choices))
                now[steps[-1][0]] = steps[-1][1]
            lengths.add(len(steps))
            for row in (steps, tuple(steps)):
                self.assertEqual(book.played(network, row), Network(now, links))
            self.assertEqual(network, Network(modes, links))
            choices = plain_possible(book, now, links)
            for step in [(site, to) for site in range(-1, len(modes) + 1) for to in range(-1, 5)]:
                if step not in choices:
                    self.refused(InvalidQuestion, len(steps), lambda: book.played(network, steps + [step, None]))
        self.assertLessEqual({0, 1, 6}, lengths)

    def test_wrong_steps(self):
        book = ChangeBook(2, [(0, (), 1), (1, (), 0)])
        network = Network([0, 1, 3], [])
        self.assertEqual(book.possible(network=network), ((0, 1), (1, 0)))
        for value in ODD:
            self.refused(InvalidQuestion, 0, lambda: book.played(network, value))
        for value in ODD + [[0, 1], (0,), (0, 1, 0), (0, True), (False, 1), (1, 1), (2, 0), (3, 0), ("0", 1), (0, 1.0)]:
            self.refused(InvalidQuestion, 0, lambda: book.played(network, [value]))
            self.refused(InvalidQuestion, 2, lambda: book.played(network, [(1, 0), (1, 1), value]))
        self.assertEqual(book.played(network=network, steps=[]), network)
        self.assertEqual(book.played(network, [(1, 0), (0, 1), (1, 1)]).modes, (1, 1, 3))
        near = Network([0, 1], [(0, 1)])
        self.assertEqual(book.possible(near), ())
        self.assertEqual(ChangeBook(2, []).possible(network), ())
        self.refused(InvalidQuestion, 0, lambda: ChangeBook(2, []).played(network, [(0, 1)]))


class Weighings(Case):
    def test_is_weighing(self):
        rng = dice(651)
        for modes in (1, 2, 3, 4):
            good = random_weighing(rng, modes)
            self.assertIs(is_weighing(modes, good), True)
            self.assertIs(is_weighing(modes % 4 + 1, good), False)
            links, sites = good
            wrong = [list(good), (links,), good + (1,), (sites, links), (list(links), sites), (links, list(sites)),
                     (links[:-1], sites), (links + links[-1:], sites), (links, sites[:4]), (links, sites + sites[:1]),
                     (links[:-1] + (list(links[-1]),), sites), (links, sites[:4] + (list(sites[4]),)),
                     (links, sites[:4] + (sites[4] + (0,),)), (links, sites[:4] + (sites[4][:-1],)),
                     (links[:-1] + (links[-1] + (0,),), sites)]
            for odd in (None, True, 1.0, "1", Agreeable()):
                wrong.append((links, sites[:4] + (sites[4][:-1] + (odd,),)))
                wrong.append((links[:-1] + (links[-1][:-1] + (odd,),), sites))
            if modes > 1:
                wrong.append(((links[0][:-1] + (links[0][-1] + 1,),) + links[1:], sites))
            for value in ODD + wrong:
                self.assertIs(is_weighing(modes, value), False, value)

    def test_weights(self):
        """The effect of a change is what it adds to the weight, wherever it is made."""
        rng = dice(652)
        done = 0
        for at in range(200):
            modes, links = random_network_parts(rng, at % 4 + 1, rng.randint(1, 9))
            weighing = random_weighing(rng, 4)
            network = Network(modes, links)
            before = weight(weighing, network)
            self.assertEqual(before, plain_weight(weighing, modes, links))
            least = min(min(row) for row in weighing[0])
            floor = least * len(links) + sum(min(weighing[1][len(view[1])]) for view in walked_views(modes, links))
            self.assertEqual(room(weighing, network), before - floor)
            self.assertGreaterEqual(room(weighing, network), 0)
            site = rng.randrange(len(modes))
            to = rng.choice([mode for mode in range(4) if mode != modes[site]])
            change = walked_views(modes, links)[site] + (to,)
            after = ChangeBook(4, [change]).played(network, [(site, to)])
            self.assertEqual(weight(weighing, after) - before, effect(weighing, change))
            done += bool(change[1])
        self.assertGreater(done, 100)

    def test_by_hand(self):
        weighing = (((5, 7), (7, 1)), ((1, 2), (3, 4), (50, 60), (700, 800), (0, 9)))
        path = Network([0, 1, 1], [(0, 1), (1, 2)])
        self.assertEqual(weight(weighing=weighing, network=path), 7 + 1 + 3 + 60 + 4)
        self.assertEqual(room(weighing=weighing, network=path), 75 - 2 * 1 - 3 - 50 - 3)
        self.assertEqual(effect(weighing=weighing, change=(1, (0, 1), 0)), 5 - 7 + 7 - 1 + 50 - 60)
        self.assertEqual((weight(weighing, Network([1], [])), room(weighing, Network([1], []))), (2, 1))
        self.assertIs(is_weighing(modes=2, value=weighing), True)
        for view in all_views(2, 4):
            self.assertEqual(effect(weighing, view + (view[0],)), 0)


if __name__ == "__main__":
    unittest.main()

"""[66], [67]: passing changes, balances, plays that end and rounds."""

import unittest
from fractions import Fraction

from plain import ODD, Agreeable, Case, dice, least_solutions, random_network_parts, told, variations
from test_changes import plain_possible, plain_weight, random_book, random_weighing

from handalong.changes import ChangeBook
from handalong.errors import InvalidQuestion
from handalong.networks import Network
from handalong.settling import always_ends, balance, end_evidence, is_balance, is_end_evidence, passing
from handalong.views import all_views
from handalong.weighings import effect, is_weighing, room


def unit_weighings(modes):
    """All weighings with one 1 (for two unlike modes at both places)."""
    nought = tuple((0,) * modes for _ in range(5))
    blank = tuple((0,) * modes for _ in range(modes))
    for a in range(modes):
        for b in range(a, modes):
            links = tuple(tuple(int(sorted((x, y)) == [a, b]) for y in range(modes)) for x in range(modes))
            yield (links, nought)
    for k in range(5):
        for a in range(modes):
            yield (blank, tuple(tuple(int((x, y) == (k, a)) for y in range(modes)) for x in range(5)))


def plain_effect(weighing, change):
    links, sites = weighing
    mode, near, to = change
    return sum(links[to][b] - links[mode][b] for b in near) + sites[len(near)][to] - sites[len(near)][mode]


def columns_of(book):
    return [tuple(plain_effect(unit, change) for unit in unit_weighings(book.modes)) for change in book.changes]


def plain_passing(book):
    """The changes that are in no least way to cancel; ways of few changes alone are tried."""
    within = {at for way in least_solutions(columns_of(book)) for at in way}
    return tuple(change for at, change in enumerate(book.changes) if at not in within)


def judge_balance(book, value):
    if type(value) is not tuple or len(value) != 2 or not is_weighing(book.modes, value[0]):
        return False
    weighing, counts = value
    if type(counts) is not tuple or len(counts) != len(book.changes) or any(type(k) is not int for k in counts):
        return False
    for change, count in zip(book.changes, counts):
        amount = plain_effect(weighing, change)
        if not (amount <= -1 and count == 0 or amount == 0 and count >= 1):
            return False
    return all(sum(k * x for k, x in zip(counts, row)) == 0 for row in zip(*columns_of(book)))


def judge_end(book, value):
    if told(value, "weighing", 2):
        return is_weighing(book.modes, value[1]) and all(plain_effect(value[1], change) <= -1 for change in book.changes)
    if not told(value, "round", 3) or type(value[1]) is not Network or type(value[2]) not in (tuple, list) or not value[2]:
        return False
    modes = list(value[1].modes)
    for step in value[2]:
        if type(step) is not tuple or len(step) != 2 or type(step[0]) is not int or type(step[1]) is not int:
            return False
        if step not in plain_possible(book, modes, value[1].links):
            return False
        modes[step[0]] = step[1]
    return tuple(modes) == value[1].modes and len(modes) <= 64


def must_end(book):
    """[67], as it is written."""
    kinds = set()
    for mode, near, _ in book.changes:
        for other, others, _ in book.changes:
            if mode == 0 and other == 1 and len(near) == len(others):
                kinds.add((sum(near) > sum(others)) - (sum(near) < sum(others)))
    return 0 not in kinds and kinds != {1, -1}


class Balances(Case):
    def test_random_books(self):
        rng = dice(661)
        kinds = set()
        for at in range(120):
            modes = at % 3 + 1
            book = random_book(rng, modes, rng.randint(0, 8), most=rng.choice((1, 2, 4)))
            told_changes = passing(book)
            self.all_tuples(told_changes)
            self.assertEqual(told_changes, plain_passing(book))
            kinds.add((bool(told_changes), len(told_changes) == len(book.changes)))
            answer = balance(book)
            self.all_tuples(answer)
            self.assertTrue(judge_balance(book, answer), (book.changes, answer))
            self.assertIs(is_balance(book, answer), True)
            doubled = (answer[0], tuple(2 * count for count in answer[1]))
            self.assertIs(is_balance(book, doubled), True)
            if at % 8 == 0:
                for value in variations(answer):
                    self.assertIs(is_balance(book, value), judge_balance(book, value), value)
            for value in ODD:
                self.assertIs(is_balance(book, value), False)
            value = (random_weighing(rng, modes), answer[1])
            self.assertIs(is_balance(book, value), judge_balance(book, value))
        self.assertEqual(kinds, {(True, True), (True, False), (False, False), (False, True)})

    def test_many_changes(self):
        rng = dice(662)
        for _ in range(15):
            book = random_book(rng, 3, 12, most=rng.choice((1, 2, 3)))
            answer = balance(book)
            self.assertTrue(judge_balance(book, answer))
            self.assertEqual(passing(book), tuple(c for c, k in zip(book.changes, answer[1]) if k == 0))

    def test_plays(self):
        """Passing changes are made at most `room` times, and the weight never rises."""
        rng = dice(663)
        made = 0
        for _ in range(60):
            book = random_book(rng, 3, 12, most=2)
            weighing, counts = balance(book)
            lost = passing(book)
            modes, links = random_network_parts(rng, 3, 8, tries=7)
            start = Network(modes, links)
            now = list(modes)
            many = 0
            for _ in range(60):
                choices = plain_possible(book, now, links)
                if not choices:
                    break
                site, to = rng.choice(choices)
                view = Network(now, links).view(site)
                before = plain_weight(weighing, now, links)
                now[site] = to
                self.assertLessEqual(plain_weight(weighing, now, links), before)
                many += view + (to,) in lost
            self.assertLessEqual(many, room(weighing, start))
            made += many
        self.assertGreater(made, 40)

    def test_by_hand(self):
        swap = ChangeBook(2, [(0, (), 1), (1, (), 0)])
        self.assertEqual(passing(book=swap), ())
        self.assertTrue(judge_balance(swap, balance(book=swap)))
        self.assertIs(is_balance(book=swap, value=((((3, 4), (4, 5)), ((6, 6), (7, 0), (0, 0), (0, 0), (0, 0))), (7, 7))), True)
        self.assertIs(is_balance(swap, ((((3, 4), (4, 5)), ((6, 6), (7, 0), (0, 0), (0, 0), (0, 0))), (7, 8))), False)
        down = ChangeBook(2, [(1, (), 0)])
        self.assertEqual(passing(down), down.changes)
        self.assertIs(is_balance(down, ((((0, 0), (0, 0)), ((0, 5), (0, 0), (0, 0), (0, 0), (0, 0))), (0,))), True)
        self.assertIs(is_balance(down, ((((0, 0), (0, 0)), ((0, 5), (0, 0), (0, 0), (0, 0), (0, 0))), (1,))), False)
        self.assertIs(is_balance(down, ((((0, 0), (0, 0)), ((0, 0), (0, 0), (0, 0), (0, 0), (0, 0))), (0,))), False)
        self.assertIs(is_balance(down, ((((0, 0), (0, 0)), ((0, 5), (0, 0), (0, 0), (0, 0), (0, 0))), (False,))), False)
        empty = ChangeBook(3, [])
        self.assertEqual((passing(empty), balance(empty)[1]), ((), ()))
        self.assertIs(is_balance(empty, (random_weighing(dice(1), 3), ())), True)
        self.assertIs(is_balance(empty, (random_weighing(dice(1), 2), ())), False)
        # Counts that cancel are no play: a site rises with one neighbour in mode 1, falls with one in mode 0.
        chase = ChangeBook(2, [(0, (1,), 1), (1, (0,), 0), (0, (0,), 1), (1, (1,), 0)])
        self.assertEqual(passing(chase), ())
        three = ChangeBook(3, [(0, (), 1), (1, (), 2), (2, (), 0), (2, (0,), 1)])
        self.assertEqual(passing(three), ((2, (0,), 1),))


class Ends(Case):
    def test_random_books(self):
        rng = dice(671)
        words = set()
        views = [view for degree in range(5) for view in all_views(2, degree)]
        for at in range(250):
            chosen = rng.sample(views, rng.randint(0, 4 if at % 2 else 9))
            book = ChangeBook(2, [view + (1 - view[0],) for view in chosen])
            ends = must_end(book)
            words.add((ends, bool(book.changes)))
            self.assertIs(always_ends(book), ends)
            answer = end_evidence(book)
            self.assertEqual(answer[0], "weighing" if ends else "round")
            self.all_tuples(answer)
            self.assertTrue(judge_end(book, answer), (book.changes, answer))
            self.assertIs(is_end_evidence(book, answer), True)
            if answer[0] == "round":
                self.assertIs(is_end_evidence(book, answer[:2] + (list(answer[2]),)), True)
                self.assertIs(is_end_evidence(book, answer[:2] + (answer[2] * 2,)), True)
                self.assertIs(is_end_evidence(book, answer[:2] + (answer[2][:-1],)), False)
            for value in ODD + [("round",), ("round", answer[1], ()), ("weighing", None)]:
                self.assertIs(is_end_evidence(book, value), False)
            if at % 12 == 0:
                for value in variations(answer):
                    self.assertIs(is_end_evidence(book, value), judge_end(book, value), value)
        self.assertEqual(words, {(True, True), (False, True), (True, False)})

    def test_all_pairs(self):
        """Each following pair with each opposing one, of all numbers of neighbours."""
        many = set()
        for k in range(1, 5):
            for high in range(1, k + 1):
                for low in range(high):
                    for d in range(1, 5):
                        for more in range(1, d + 1):
                            for fewer in range(more):
                                rows = {(0, (0,) * (k - high) + (1,) * high, 1), (1, (0,) * (k - low) + (1,) * low, 0),
                                        (0, (0,) * (d - fewer) + (1,) * fewer, 1), (1, (0,) * (d - more) + (1,) * more, 0)}
                                book = ChangeBook(2, sorted(rows))
                                answer = end_evidence(book)
                                self.assertEqual(answer[0], "round")
                                self.assertTrue(judge_end(book, answer), book.changes)
                                many.add(len(answer[1].modes))
        self.assertLessEqual(max(many), 64)

    def test_weighings(self):
        """A weighing that each change lowers bounds all plays."""
        rng = dice(672)
        for pull in (1, -1):
            rows = [view + (1 - view[0],) for k in range(5) for view in all_views(2, k)
                    if pull * (2 * sum(view[1]) - k) > 0 and view[0] == 0 or pull * (2 * sum(view[1]) - k) < 0 and view[0]]
            book = ChangeBook(2, rows)
            self.assertIs(always_ends(book), True)
            word, weighing = end_evidence(book)
            self.assertEqual(word, "weighing")
            for _ in range(20):
                modes, links = random_network_parts(rng, 2, 10)
                now, many = list(modes), 0
                while plain_possible(book, now, links):
                    site, to = rng.choice(plain_possible(book, now, links))
                    now[site] = to
                    many += 1
                self.assertLessEqual(many, room(weighing, Network(modes, links)))

    def test_more_modes(self):
        rng = dice(673)
        for modes in (1, 3, 4):
            book = random_book(rng, modes, 6, most=2)
            self.refused(InvalidQuestion, 0, lambda: always_ends(book))
            self.refused(InvalidQuestion, 0, lambda: end_evidence(book))
        book = ChangeBook(3, [(0, (), 1), (1, (), 2), (2, (), 0)])
        steps = ((0, 1), (0, 2), (0, 0))
        self.assertIs(is_end_evidence(book=book, value=("round", Network([0], []), steps)), True)
        self.assertIs(is_end_evidence(book, ("round", Network([0], []), steps[:2])), False)
        self.assertIs(is_end_evidence(book, ("round", Network([0] * 64, []), steps)), True)
        self.assertIs(is_end_evidence(book, ("round", Network([0] * 65, []), steps)), False)
        self.assertIs(is_end_evidence(book, ("round", ([0], []), steps)), False)
        down = ChangeBook(3, [(2, (), 1), (1, (), 0)])
        weighing = (((0,) * 3,) * 3, ((0, 1, 2),) + ((0,) * 3,) * 4)
        self.assertIs(is_end_evidence(down, ("weighing", weighing)), True)
        self.assertIs(is_end_evidence(book, ("weighing", weighing)), False)
        self.assertIs(is_end_evidence(down, Agreeable()), False)

    def test_by_hand(self):
        flat = ChangeBook(2, [(0, (0, 1), 1), (1, (0, 1), 0)])
        self.assertIs(always_ends(book=flat), False)
        self.assertEqual(end_evidence(book=flat), ("round", Network([0, 1, 0], [(0, 1), (0, 2)]), ((0, 1), (0, 0))))
        self.assertIs(always_ends(ChangeBook(2, [])), True)
        self.assertEqual(end_evidence(ChangeBook(2, []))[0], "weighing")
        one = ChangeBook(2, [(0, (1,), 1), (1, (0,), 0)])
        self.assertEqual(effect(end_evidence(one)[1], (0, (1,), 1)), -1)
        self.assertEqual(Fraction(room(end_evidence(one)[1], Network([0, 1], [(0, 1)]))).denominator, 1)


if __name__ == "__main__":
    unittest.main()

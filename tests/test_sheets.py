"""[82]: sheets of all kinds, made and held by the functions that the table names."""

import unittest

from plain import ODD, Agreeable, Case, dice, pair, plain_elements, random_policy_views, strict_fraction, variations

from handalong.between import is_with_evidence, with_mean
from handalong.clocks import clock_evidence, is_clock_evidence
from handalong.errors import InvalidQuestion, InvalidScore, InvalidView, NetError, NoNetwork, Refused
from handalong.forbidding import ban_evidence, is_ban_evidence
from handalong.forced import force_evidence, is_force_evidence
from handalong.kept import is_nought_evidence, nought_evidence
from handalong.live import is_live_evidence, live_evidence
from handalong.means import greatest_mean, is_greatest_evidence, is_least_evidence, least_mean
from handalong.policies import Policy
from handalong.polygons import polygon, polygon_holds
from handalong.shares import ratio_holds, worst_ratio
from handalong.sheets import sheet, sheet_holds, wrong_sheets
from handalong.sizes import is_size_evidence, size_evidence
from handalong.tight import is_tight_evidence, tight_views

TABLE = {
    "least": (1, least_mean, is_least_evidence), "greatest": (1, greatest_mean, is_greatest_evidence),
    "tight": (1, tight_views, is_tight_evidence), "with": (2, with_mean, is_with_evidence),
    "live": (0, live_evidence, is_live_evidence), "force": (2, force_evidence, is_force_evidence),
    "nought": (1, nought_evidence, is_nought_evidence), "clock": (2, clock_evidence, is_clock_evidence),
    "size": (0, size_evidence, is_size_evidence), "ban": (3, ban_evidence, is_ban_evidence),
    "polygon": (2, polygon, polygon_holds), "ratio": (2, worst_ratio, ratio_holds),
}


def random_question(rng, policy, kind):
    """A question for a kind, with lists or tuples."""
    form = rng.choice((list, tuple))
    scores = form(rng.randint(-4, 9) for _ in policy.views)
    second = form(rng.randint(0, 4) for _ in policy.views)
    views = form(rng.sample(policy.views, rng.randint(0, min(2, len(policy.views)))))
    return {"with": (scores, pair(rng.randint(-3, 6))), "live": (), "size": (), "clock": (scores, rng.randint(1, 4)),
            "force": (views, form(rng.sample(policy.views, min(1, len(policy.views))))),
            "ban": (scores, pair(rng.randint(-3, 6)), views), "polygon": (scores, second),
            "ratio": (scores, second)}.get(kind, (scores,))


def small_policies(seed, many):
    rng = dice(seed)
    for at in range(many):
        modes = at % 3 + 1
        yield rng, Policy(modes, random_policy_views(rng, modes, rng.randint(1, 4), most=3))


class Sheets(Case):
    def test_all_kinds(self):
        made = set()
        for rng, policy in small_policies(821, 40):
            for kind, (_, make, check) in TABLE.items():
                question = random_question(rng, policy, kind)
                try:
                    value = make(policy, *question)
                except NetError as error:
                    with self.assertRaises(type(error)) as caught:
                        sheet(policy, kind, question)
                    self.assertEqual(vars(caught.exception), vars(error))
                    self.assertIs(sheet_holds(policy, (kind, question, None)), False)
                    made.add((kind, type(error)))
                    continue
                told = sheet(policy, kind, question)
                self.assertEqual(told, (kind, question, value))
                self.assertEqual([type(x) for x in told[1]], [type(x) for x in question])
                self.assertIs(sheet_holds(policy, told), True)
                made.add(kind)
                for other in ODD[:6] + [value + (1,), value[:-1], list(value)]:
                    self.assertIs(sheet_holds(policy, (kind, question, other)), check(policy, *question, other))
        self.assertLessEqual(set(TABLE) | {("size", NoNetwork), ("tight", NoNetwork), ("polygon", NoNetwork)}, made)

    def test_variations(self):
        policy = Policy(2, [(0, (1,)), (1, (0, 0)), (1, (1,))])
        rng = dice(822)
        for kind, (_, make, check) in TABLE.items():
            question = random_question(rng, policy, kind)
            value = make(policy, *question)
            for other in list(variations(value))[::5]:
                self.assertIs(sheet_holds(policy, (kind, question, other)), check(policy, *question, other), (kind, other))
            told = (kind, question, value)
            for other in variations(told[:2]):
                if type(other) is tuple and len(other) == 2 and type(other[0]) is str and type(other[1]) is tuple:
                    right = False
                    if other[0] in TABLE and len(other[1]) == TABLE[other[0]][0]:
                        try:
                            right = self.is_question(other) and TABLE[other[0]][2](policy, *other[1], value)
                        except NetError:
                            right = False
                    self.assertIs(sheet_holds(policy, other + (value,)), right, other)
                elif type(other) is not tuple or len(other) != 2:
                    self.assertIs(sheet_holds(policy, other), False)
            for other in (list(told), told + (1,), told[:2], (kind, list(question), value), (kind.upper(), question, value)):
                self.assertIs(sheet_holds(policy, other), False)

    def is_question(self, told):
        at = {"with": 1, "ban": 1}.get(told[0])
        if at is None:
            return True
        return strict_fraction(told[1][at])

    def test_refusals(self):
        policy = Policy(2, [(0, (1,)), (1, (0,))])
        for kind in ODD + ["Least", "LEAST", "least ", "", 0, ("least",), ["least"]]:
            self.refused(Refused, 0, lambda: sheet(policy, kind, None))
            self.assertIs(sheet_holds(policy, (kind, ([0, 0],), None)), False)
        for kind, (many, _, _) in TABLE.items():
            for question in ODD + [[None] * many, (None,) * (many + 1)] + ([()] if many else [(None,)]):
                self.refused(Refused, 1, lambda: sheet(policy, kind, question))
                self.assertIs(sheet_holds(policy, (kind, question, None)), False)
        for odd in ODD + [1, (2, 4), (1, 0), [1, 2], (1, -1), (True, 1)]:
            self.refused(Refused, 1, lambda: sheet(policy, "with", (None, odd)))
            self.refused(Refused, 1, lambda: sheet(policy, "ban", (None, odd, None)))
        for value in ODD:
            self.refused(InvalidScore, 2, lambda: sheet(policy, "least", (value,)))
            self.refused(InvalidScore, 2, lambda: sheet(policy, "with", (value, (0, 1))))
            self.refused(InvalidView, 0, lambda: sheet(policy, "force", (value, value)))
            self.refused(InvalidQuestion, 2, lambda: sheet(policy, "clock", ([0, 0], value)))
            self.assertIs(sheet_holds(policy, ("clock", ([0, 0], value), ("clock", ((0, 1),) * 3))), False)
        self.refused(InvalidQuestion, 2, lambda: sheet(policy, "ratio", ([0, 0], [0, -1])))
        self.assertIs(sheet_holds(policy, ("live", (), live_evidence(policy))), True)
        nested = []
        for _ in range(100000):
            nested = [nested]
        self.refused(InvalidScore, 0, lambda: sheet(policy, "least", ([nested],)))
        self.assertIs(sheet_holds(policy=policy, value=("least", ([nested],), None)), False)

    def test_lists_are_copied(self):
        policy = Policy(2, [(0, (1,)), (1, (0,))])
        scores, having, some = [3, 4], [(0, (1,))], []
        told = sheet(policy=policy, kind="least", question=(scores,))
        other = sheet(policy, "force", (having, some))
        scores[0] = 9
        having.append(1)
        some.append(2)
        self.assertEqual(told[1], ([3, 4],))
        self.assertEqual(other[1], ([(0, (1,))], []))
        self.assertIs(sheet_holds(policy, told), True)
        told[1][0][0] = None
        self.assertIs(sheet_holds(policy, told), False)

    def test_wrong_sheets(self):
        policy = Policy(2, [(0, (1,)), (1, (0,))])
        good = [sheet(policy, "least", ([3, 4],)), sheet(policy, "live", ()), sheet(policy, "size", ())]
        bad = ("least", ([3, 5],), good[0][2])
        self.assertEqual(wrong_sheets(policy, good), ())
        self.assertEqual(wrong_sheets(policy=policy, values=()), ())
        self.assertEqual(wrong_sheets(policy, [bad] + good + [None, Agreeable()] + good[:1] + [bad]), (0, 4, 5, 7))
        self.assertEqual(wrong_sheets(policy, tuple(ODD)), tuple(range(len(ODD))))
        self.all_tuples(wrong_sheets(policy, [bad]))
        for value in ODD + [5]:
            self.refused(InvalidQuestion, 0, lambda: wrong_sheets(policy, value))

    def test_empty_lots(self):
        """Bans and forces of no view."""
        policy = Policy(2, [(0, (1,)), (1, (0,))])
        for question in (((1, 2), (2, 1), ()), ((1, 2), (1, 1), ()), ((1, 2), (9, 2), [])):
            told = sheet(policy, "ban", question)
            self.assertIs(sheet_holds(policy, told), True)
        self.assertEqual(sheet(policy, "ban", ((1, 2), (1, 1), ()))[2][0], "transfer")
        self.assertEqual(sheet(policy, "ban", ((1, 2), (2, 1), ()))[2][0], "element")
        self.assertIs(sheet_holds(policy, sheet(policy, "force", ((), ()))), True)
        self.assertEqual(len(plain_elements(policy)), 1)


if __name__ == "__main__":
    unittest.main()

"""[83], [84]: the desk's commands and answers, letter by letter."""

import unittest

from plain import ODD, Agreeable, Case, dice, random_network_parts, random_policy_views, walked_views

from handalong.collected import collection_mean
from handalong.desk import Desk
from handalong.errors import InvalidCommand, InvalidPolicy, InvalidScore, InvalidView, NotObeyed, Refused
from handalong.living import Living
from handalong.means import greatest_mean, is_least_evidence, least_mean
from handalong.networks import Network, total
from handalong.policies import Policy


def view_word(view):
    return str(view[0]) + ":" + "".join(map(str, view[1]))


def fraction_word(fraction):
    return str(fraction[0]) if fraction[1] == 1 else f"{fraction[0]}/{fraction[1]}"


class Commands(Case):
    def bad(self, desk, command):
        before = (desk.policy, desk.living, desk.living and (desk.living.modes, desk.living.links, len(desk.living)))
        with self.assertRaises(InvalidCommand) as caught:
            desk.say(command)
        self.assertIs(type(caught.exception), InvalidCommand)
        self.assertIs(desk.policy, before[0])
        self.assertIs(desk.living, before[1])
        self.assertEqual(desk.living and (desk.living.modes, desk.living.links, len(desk.living)), before[2])

    def test_a_day(self):
        desk = Desk()
        self.assertEqual((desk.policy, desk.living), (None, None))
        told = [("policy 2 1:00 0:1 1:1", "ok"), ("views", "0:1 1:00 1:1"), ("least 0 6 5", "2"), ("greatest 0 6 5", "5"),
                ("least 0 7 5", "7/3"), ("least 0 -7 5", "-7/3"), ("shows 0 6 5", "2 0:1, 1 1:00"), ("shows 0 6 1", "2 1:1"),
                ("wrong", "none"), ("network", "|"), ("undo", "nothing"), ("total 1 2 3", "0"), ("add 0", "0"), ("add 0", "1"),
                ("add 1", "2"), ("wrong", "0 1 2"), ("link 0 2", "ok"), ("wrong", "1 2"), ("link 2 1", "ok"), ("wrong", "none"),
                ("total 1 2 3", "4"), ("total -1 -2 3", "-4"), ("network", "0 0 1 | 0-2 1-2"), ("cut 1 2", "ok"),
                ("network", "0 0 1 | 0-2"), ("undo", "ok"), ("network", "0 0 1 | 0-2 1-2"), ("turn 1 1", "ok"), ("wrong", "2"),
                ("policy 1 0:", "ok"), ("network", "|"), ("views", "0:"), ("least 3", "3"), ("shows 3", "1 0:"), ("undo", "nothing"),
                ("policy 2 0:1", "ok"), ("least 4", "none"), ("greatest 4", "none"), ("shows 4", "none"), ("views", "0:1"),
                ("policy 4 3:0123", "ok"), ("views", "3:0123"), ("add 3", "0"), ("network", "3 |")]
        for command, answer in told:
            said = desk.say(command=command)
            if command == "shows 0 6 1":
                self.assertIn(said, ("2 1:1", "1 1:1"))
            else:
                self.assertEqual(said, answer, command)
            self.assertIs(type(said), str)
        self.assertEqual(desk.policy, Policy(4, [(3, (0, 1, 2, 3))]))
        self.assertIs(type(desk.living), Living)
        self.assertEqual(desk.living.modes, (3,))

    def test_random_policies(self):
        rng = dice(831)
        for at in range(40):
            modes = at % 3 + 1
            policy = Policy(modes, random_policy_views(rng, modes, rng.randint(1, 4), most=4))
            desk = Desk()
            words = [view_word(view) for view in policy.views]
            rng.shuffle(words)
            self.assertEqual(desk.say(" ".join(["policy", str(modes)] + words)), "ok")
            self.assertEqual(desk.policy, policy)
            self.assertEqual(desk.say("views"), " ".join(view_word(view) for view in policy.views))
            scores = [rng.choice((0, -7, 999999, -999999, rng.randint(-9, 9))) for _ in policy.views]
            asked = " ".join(map(str, scores))
            low, high = least_mean(policy, scores), greatest_mean(policy, scores)
            if low[0] == "none":
                self.assertEqual([desk.say(f"{word} {asked}") for word in ("least", "greatest", "shows")], ["none"] * 3)
                continue
            self.assertEqual(desk.say("least " + asked), fraction_word(low[1]))
            self.assertEqual(desk.say("greatest " + asked), fraction_word(high[1]))
            self.assertEqual(desk.say("shows " + asked), ", ".join(f"{count} {view_word(view)}" for view, count in low[2]))
            self.assertEqual(collection_mean(policy, scores, low[2]), low[1])
            self.assertTrue(is_least_evidence(policy, scores, low))

    def test_networks(self):
        rng = dice(832)
        for at in range(30):
            modes, links = random_network_parts(rng, at % 3 + 1, rng.randint(1, 7))
            views = sorted(set(walked_views(modes, links)))
            desk = Desk()
            desk.say("policy 3 " + " ".join(view_word(view) for view in views))
            self.assertEqual([desk.say(f"add {mode}") for mode in modes], [str(site) for site in range(len(modes))])
            for i, j in rng.sample(links, len(links)):
                self.assertEqual(desk.say(f"link {j} {i}"), "ok")
            self.assertEqual(desk.say("wrong"), "none")
            parts = list(map(str, modes)) + ["|"] + [f"{i}-{j}" for i, j in links]
            self.assertEqual(desk.say("network"), " ".join(parts))
            scores = [rng.randint(-9, 9) for _ in views]
            self.assertEqual(desk.say("total " + " ".join(map(str, scores))),
                             str(total(Policy(3, views), scores, Network(modes, links))))
            self.assertEqual(len(desk.living), len(modes) + len(links))
            for _ in range(len(desk.living)):
                self.assertEqual(desk.say("undo"), "ok")
            self.assertEqual((desk.say("undo"), desk.say("network")), ("nothing", "|"))

    def test_wrong_commands(self):
        forms = ["", " ", "Policy 1 0:", "policy", "policy 2", "policy 0:", "policy 2 0", "policy 2 :0", "policy 2 0:10",
                 "policy 2 0:0 ", " policy 2 0:0", "policy  2 0:0", "policy 2 0:0\n", "policy\t2 0:0", "policy 02 0:0",
                 "policy 2 0:-1", "policy 2 00:0", "policy 2 0:0,1", "policy -2 0:0", "policy 2 0: 1", "policy 1234567 0:",
                 "policy two 0:", "policy 2 0:0 0;0", "policy 2 a:0", "policy 2 0:a", "policy 2 0::0", "policy 2 \u0661:0",
                 "policy 2 0:\u0661", "policy \u0662 0:", "policy 2 0:\u00b2", "views 1", "view", "VIEWS", "views ", "least",
                 "least ", "least 0 x", "least 0 +1", "least 00 1", "least 0 -0", "least -0 0", "least - 0", "least --1 0",
                 "least 1234567 0", "least -1234567 0", "least 0 -01", "least 0 1.0", "least 1/2 0", "greatest", "greatest -0 0",
                 "shows", "shows 0 1a", "total", "total 0 0x1", "add", "add -1", "add 01", "add 0 0", "add x", "add 1234567",
                 "turn", "turn 0", "turn 0 0 0", "turn 0 -1", "link 0", "link 0 1 2", "link 0-1", "cut 0", "cut 00 1", "cut",
                 "undo 1", "wrong 0", "network 0", "least 0\n0", "add\n0", "undo\n", "\u00a0", "views\r", "help"]
        desk, empty = Desk(), Desk()
        desk.say("policy 2 0:1 1:0")
        for mode in (0, 1):
            desk.say(f"add {mode}")
        for command in forms:
            self.bad(desk, command)
            self.bad(empty, command)
        for value in ODD[1:] + [None, b"views", ["views"], ("views",), 0]:
            self.bad(desk, value)
            self.bad(empty, value)
        for command in ("views", "least 0 0", "greatest 0", "shows 0", "add 0", "turn 0 0", "link 0 1", "cut 0 1", "undo", "wrong",
                        "total 0", "network"):
            self.bad(empty, command)
        self.assertEqual(desk.say("network"), "0 1 |")

    def test_other_errors(self):
        desk = Desk()
        for command, kind, at in (("policy 0 0:", InvalidPolicy, 0), ("policy 5 0:", InvalidPolicy, 0), ("policy 999999 9:", InvalidPolicy, 0),
                                  ("policy 2 0: 2:", InvalidView, 1), ("policy 2 0: 0:2", InvalidView, 1), ("policy 2 9:", InvalidView, 0),
                                  ("policy 2 0: 1: 0:", InvalidView, 2), ("policy 2 0:00000", InvalidView, 0),
                                  ("policy 2 1:0 0:0123456789", InvalidView, 1)):
            self.refused(kind, at, lambda: desk.say(command))
            self.assertEqual((desk.policy, desk.living), (None, None))
        desk.say("policy 2 0:1 1:0")
        policy, living = desk.policy, desk.living
        desk.say("add 0")
        for command, kind, at in (("policy 2 0: 0:", InvalidView, 1), ("least 1", InvalidScore, 2), ("greatest 1 2 3", InvalidScore, 2),
                                  ("shows 1", InvalidScore, 2), ("total 1", InvalidScore, 2), ("total 1 2", NotObeyed, 0),
                                  ("add 2", Refused, 0), ("add 999999", Refused, 0), ("turn 1 0", Refused, 0), ("turn 0 2", Refused, 0),
                                  ("link 0 0", Refused, 0), ("link 0 1", Refused, 0), ("cut 0 1", Refused, 0)):
            self.refused(kind, at, lambda: desk.say(command))
            self.assertIs(desk.policy, policy)
            self.assertIs(desk.living, living)
            self.assertEqual((living.modes, living.links, len(living)), ((0,), (), 1))

    def test_kept_words(self):
        desk = Desk()
        self.bad(desk, Agreeable())
        desk.say("policy 2 0:1 1:0")
        desk.living.add(1)
        self.assertEqual(desk.say("network"), "1 |")
        for value in ODD + [(None, None), vars(desk)]:
            self.assertIs(desk == value, False)
        self.assertIs(desk == desk, True)
        self.assertIs(desk != Desk(), True)


if __name__ == "__main__":
    unittest.main()

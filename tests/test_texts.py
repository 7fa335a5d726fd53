"""[11]: texts."""

import unittest

from plain import ODD, Case, dice, random_network_parts, random_policy_views

from handalong.errors import InvalidText
from handalong.networks import Network
from handalong.policies import Policy
from handalong.texts import network_text, policy_text, read_network, read_policy


class Texts(Case):
    def wrong(self, at, work, text):
        self.refused(InvalidText, at, lambda: work(text))

    def test_policy_text(self):
        policy = Policy(3, [(2, (0, 1, 1)), (0, ()), (0, (2, 2, 2, 2))])
        self.assertEqual(policy_text(policy), "modes 3\n0 :\n0 : 2 2 2 2\n2 : 0 1 1")
        self.assertEqual(policy_text(policy=Policy(4, [])), "modes 4")

    def test_network_text(self):
        network = Network([0, 3, 1], [(2, 0), (1, 2)])
        self.assertEqual(network_text(network), "sites 0 3 1\nlink 0 2\nlink 1 2")
        self.assertEqual(network_text(network=Network([2], [])), "sites 2")

    def test_policy_read_again(self):
        rng = dice(12)
        for modes in (1, 2, 3, 4):
            for many in (0, 1, 5):
                policy = Policy(modes, random_policy_views(rng, modes, many))
                self.assertEqual(read_policy(policy_text(policy)), policy)

    def test_network_read_again(self):
        rng = dice(13)
        for many in (1, 2, 11, 64):
            network = Network(*random_network_parts(rng, 4, many))
            self.assertEqual(read_network(network_text(network)), network)

    def test_any_order(self):
        self.assertEqual(read_policy("modes 2\n1 : 1 0 0\n0 :\n0 : 1 0"), Policy(2, [(0, ()), (0, (0, 1)), (1, (0, 0, 1))]))
        self.assertEqual(read_network("sites 1 0 2\nlink 2 1\nlink 1 0"), Network([1, 0, 2], [(0, 1), (1, 2)]))
        self.assertEqual(read_policy(text="modes 1"), Policy(1, []))
        self.assertEqual(read_network(text="sites 3"), Network([3], []))

    def test_no_string(self):
        for value in [value for value in ODD if not isinstance(value, str)] + [0, ["modes 1"], b"modes 1", ("sites 0",)]:
            self.wrong(0, read_policy, value)
            self.wrong(0, read_network, value)

    def test_wrong_first_line_of_a_policy(self):
        for line in ["", "modes", "modes ", "mode 2", "Modes 2", "modes 0", "modes 5", "modes 02", "modes  2", " modes 2",
                     "modes 2 ", "modes 2 2", "modes +2", "modes -1", "modes 2.0", "modes two", "modes\t2", "modes \u0662",
                     "2", "sites 2", "modes 2\r", "modes " + "1" * 5000, "modes 1_", "modes \u00b2"]:
            self.wrong(0, read_policy, line)
            self.wrong(0, read_policy, line + "\nnothing")

    def test_wrong_lines_of_a_policy(self):
        for line in ["", " ", "0", "0:", "0 0", "0 : ", "0 :  1", " 0 :", "0  : 1", "0 : 1 ", ": 0", "0 : :", "a : 0", "0 : a",
                     "00 : 0", "0 : 01", "2 : 0", "0 : 2", "4 :", "0 : 0 0 0 0 0", "0 : -1", "0 : 0,1", "modes 2", "0 ; 0",
                     "1 : 1 0", "1 : 0 1", "0 :\t1", "0 : 1\r", "0 : " + "1" * 5000, "1" * 5000 + " :", "+0 :", "0 : \u0661"]:
            self.wrong(2, read_policy, "modes 2\n1 : 0 1\n" + line)
            self.wrong(2, read_policy, "modes 2\n1 : 1 0\n" + line + "\nnothing\n1 : 0 1")
        self.wrong(1, read_policy, "modes 2\n")
        self.wrong(2, read_policy, "modes 2\n0 :\n")
        self.wrong(1, read_policy, "modes 2\nnothing\n0 : 7")
        self.wrong(1, read_policy, "modes 2\n0 : 7\nnothing")
        self.wrong(3, read_policy, "modes 2\n0 : 1\n1 : 1\n0 : 1")

    def test_wrong_first_line_of_a_network(self):
        for line in ["", "sites", "sites ", "sites 4", "sites 0 4", "sites 00", "sites 0  1", " sites 0", "sites 0 ", "site 0",
                     "sites -1", "sites a", "sites 4 0 0", "sites 0 0 4 0", "sites 0 01", "link 0 1", "modes 0", "sites 0\r", "sites " + "0" * 5000,
                     "sites " + "1" * 5000, "sites \u0661"]:
            self.wrong(0, read_network, line)
            self.wrong(0, read_network, line + "\nnothing")

    def test_wrong_lines_of_a_network(self):
        start = "sites 0 1 2 3 0 1\nlink 0 1\nlink 0 2\nlink 0 3\nlink 0 4\n"
        for line in ["", " ", "link", "link ", "link 1", "link 1 2 3", "link 1 1", "link 1 6", "link 0 1", "link 1 0", "link 4 0",
                     "link 0 5", "link 5 0", "link 01 2", "link 1 02", "link  1 2", "link 1  2", " link 1 2", "link 1 2 ",
                     "links 1 2", "Link 1 2", "link -1 2", "link a 2", "link 1,2", "1 2", "sites 0", "link 1 " + "9" * 5000,
                     "link 1 2\r", "link 1 \u0662"]:
            self.wrong(5, read_network, start + line)
            self.wrong(5, read_network, start + line + "\nnothing\nlink 0 1")
        self.wrong(1, read_network, "sites 0\n")
        self.wrong(2, read_network, "sites 0 0\nlink 0 1\n")
        self.wrong(1, read_network, "sites 0 0\nlink 0 2\nnothing")
        self.wrong(2, read_network, "sites 0 0\nlink 0 1\nnothing\nlink 0 2")


if __name__ == "__main__":
    unittest.main()

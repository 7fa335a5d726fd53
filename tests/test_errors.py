"""[4]: the errors."""

import unittest

from handalong import errors

WITH = ["InvalidPolicy", "InvalidNetwork", "InvalidView", "InvalidScore", "InvalidCollection", "InvalidTransfer",
        "InvalidRule", "InvalidText", "InvalidQuestion", "NotObeyed", "Refused"]
WITHOUT = ["NoNetwork", "InvalidCommand"]


class Errors(unittest.TestCase):
    def test_each_is_a_direct_subclass(self):
        self.assertEqual(errors.NetError.__bases__, (ValueError,))
        for name in WITH + WITHOUT:
            self.assertEqual(getattr(errors, name).__bases__, (errors.NetError,), name)

    def test_any_value_is_kept(self):
        for name in WITH:
            for value in [0, -3, None, "x", [1], (1, 2), True]:
                made = getattr(errors, name)(value)
                self.assertIs(made.at, value)
                self.assertIs(getattr(errors, name)(at=value).at, value)
            with self.assertRaises(TypeError):
                getattr(errors, name)()
            with self.assertRaises(TypeError):
                getattr(errors, name)(1, 2)

    def test_two_take_nothing(self):
        for name in WITHOUT:
            kind = getattr(errors, name)
            self.assertFalse(hasattr(kind(), "at"))
            with self.assertRaises(TypeError):
                kind(0)
            with self.assertRaises(TypeError):
                kind(at=0)

    def test_all_can_be_raised_and_caught(self):
        for name in WITH:
            with self.assertRaises(errors.NetError) as caught:
                raise getattr(errors, name)(7)
            self.assertEqual(caught.exception.at, 7)
        for name in WITHOUT:
            with self.assertRaises(ValueError):
                raise getattr(errors, name)()


if __name__ == "__main__":
    unittest.main()

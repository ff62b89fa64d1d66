"""The classes of refusals, as [0.4] and the interface name them."""

import unittest

from meadshares import errors

PLAIN = (
    "NoMead", "NoPlace", "NoLand", "NoCustom", "NoClaim", "NoClaims", "NoHolder", "There", "Missing", "NoPlea",
    "NoParting", "NoHouses", "NoNumber", "NoDealt", "NoWalks", "NoWill", "NoOdd", "NoUndo", "NoText", "NoLine",
    "NoBook",
)


class Classes(unittest.TestCase):
    def test_mead_error_stands_straight_under_value_error(self):
        self.assertEqual(errors.MeadError.__bases__, (ValueError,))

    def test_each_stands_straight_under_mead_error(self):
        for name in PLAIN + ("TooMany",):
            with self.subTest(name=name):
                self.assertEqual(getattr(errors, name).__bases__, (errors.MeadError,))
                self.assertEqual(getattr(errors, name).__name__, name)

    def test_no_two_are_one(self):
        self.assertEqual(len({getattr(errors, name) for name in PLAIN + ("TooMany",)}), 22)

    def test_each_is_raised_and_taken(self):
        for name in PLAIN:
            with self.subTest(name=name):
                with self.assertRaises(errors.MeadError) as taken:
                    raise getattr(errors, name)("words")
                self.assertEqual(str(taken.exception), "words")

    def test_too_many_has_its_fields(self):
        with self.assertRaises(ValueError) as taken:
            raise errors.TooMany(13, 12)
        self.assertEqual((taken.exception.many, taken.exception.most), (13, 12))

    def test_too_many_keeps_each_ones_own_fields(self):
        one, other = errors.TooMany(13, 12), errors.TooMany(21, 20)
        self.assertEqual((one.many, one.most, other.many, other.most), (13, 12, 21, 20))


if __name__ == "__main__":
    unittest.main()

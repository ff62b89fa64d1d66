"""Numbers [0.2] and rising tuples and lists [0.5]."""

import unittest

from meadshares.kinds import (
    is_number, is_number_within, is_pair_of_numbers, is_rising, is_tuple_within, rising_tuples,
)
from tests.helpers import LARGE, THINGS, all_tuples, answer_of, looks


class Kinds(unittest.TestCase):
    def test_a_number_is_an_int_that_is_no_truth(self):
        for thing in (0, 1, -1, LARGE, -LARGE):
            self.assertIs(answer_of(is_number, thing), True)
        for thing in (True, False, None, "1", "", (1,), [1], {1: 1}, (), [], {}):
            self.assertIs(answer_of(is_number, thing), False)

    def test_a_number_within_bounds(self):
        for thing, within in ((-3, False), (-2, True), (0, True), (5, True), (6, False), (LARGE, False)):
            self.assertIs(is_number_within(thing, -2, 5), within)
        for thing in (True, False, None, "1", (1,), [1]):
            self.assertIs(answer_of(is_number_within, thing, -2, 5), False)

    def test_a_tuple_within_lengths(self):
        for thing, within in (((), False), ((0,), True), ((0, 0), True), ((0, 0, 0), False)):
            self.assertIs(is_tuple_within(thing, 1, 2), within)
        for thing in ([0], "a", {0: 0}, 1, None, True):
            self.assertIs(answer_of(is_tuple_within, thing, 1, 2), False)

    def test_a_pair_of_numbers(self):
        for thing in ((0, 0), (-1, 5), (LARGE, -LARGE)):
            self.assertIs(is_pair_of_numbers(thing), True)
        for thing in ((), (0,), (0, 0, 0), [0, 0], (True, 0), (0, False), (0, None), ("0", 0), (0, (0,)), "00", 0):
            self.assertIs(answer_of(is_pair_of_numbers, thing), False)

    def test_things_of_any_kind_are_answered_with_a_truth(self):
        for thing in THINGS:
            for told in (answer_of(is_number, thing), answer_of(is_number_within, thing, 0, 9),
                         answer_of(is_tuple_within, thing, 0, 9), answer_of(is_pair_of_numbers, thing)):
                self.assertIn(told.__class__, (bool,))

    def test_rising(self):
        for things in ((), [], (5,), (0, 1, 7), [-2, 0], ((0, 1), (0, 2), (1, 0)), ((0,), (0, 0))):
            self.assertIs(answer_of(is_rising, things), True)
        for things in ((1, 1), (1, 0), [0, 2, 1], (0, 1, 1), ((0, 0), (0, 0)), ((1, 0), (0, 5)), ((0, 0), (0,))):
            self.assertIs(answer_of(is_rising, things), False)

    def test_rising_tuples(self):
        self.assertEqual(rising_tuples([]), [()])
        self.assertEqual(rising_tuples([3]), [(), (3,)])
        self.assertEqual(rising_tuples([1, 2]), [(), (1,), (1, 2), (2,)])
        for things in ([0, 1, 2, 3], [(0, 0), (0, 1), (1, 0)], list(range(10))):
            self.assertEqual(looks(answer_of(rising_tuples, things)), looks(sorted(all_tuples(things))))


if __name__ == "__main__":
    unittest.main()

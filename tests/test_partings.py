"""Partings [4.1], [4.2], and what [0.2] to [0.5] ask of them."""

import time
import unittest
from itertools import product

from meadshares.errors import NoHolder, NoParting, NoPlea
from meadshares.partings import first_parting, is_parting, land_of, many_partings
from tests.helpers import (
    ALIKE, BLOCK, CHESS, CUSTOM, LARGE, NO_PLEAS, OTHER_THAN_NUMBERS, ROW, SMALL_PLEAS, STRIPS, TEN, THINGS, answer_of,
    faults_of_refusals, looks, plain_cells, plain_holders, plain_land, plain_partings,
)

# The due is 20 each, and 18 to 22 fit: 16 + 3 + 0 and what is left are 19 and 21, 16 and what is left lie apart.
NEAR = (((1, 2, 4, 8), (-1, -1, -1, 6), (16, 3, 0, -2)), (1,), ALIKE[1], 2)
FIRST_OF_ROW = (1, 1, 3, 3, 3, 3)


class IsParting(unittest.TestCase):
    def test_partings(self):
        self.assertIs(is_parting(NEAR, (0, 0, 0, 0, 0, 1, 1, 1)), True)
        self.assertIs(is_parting(NEAR, (1, 1, 1, 1, 1, 0, 0, 0)), True)
        for many in (2, 3, 4):
            self.assertIs(is_parting(ROW, (1,) * many + (3,) * (6 - many)), True)
            self.assertIs(is_parting(ROW, (3,) * many + (1,) * (6 - many)), True)

    def test_lands_that_do_not_fit(self):
        self.assertIs(is_parting(ROW, (1, 3, 3, 3, 3, 3)), False)
        self.assertIs(is_parting(ROW, (1, 1, 1, 1, 1, 3)), False)
        self.assertIs(is_parting(ROW, (1, 3, 1, 3, 3, 1)), False)
        self.assertIs(is_parting(NEAR, (0, 0, 0, 0, 1, 1, 1, 1)), False)
        no_road = (((2, 2, -1), (2, 2, -2)), (1,), ALIKE[1], 999)
        self.assertIs(is_parting(no_road, (0, 1, 0, 0)), False)
        self.assertIs(is_parting(no_road, (0, 0, 0, 1)), False)

    def test_a_holder_with_no_cell(self):
        self.assertIs(is_parting(ROW, (1,) * 6), False)
        self.assertIs(is_parting((((0, -1, 0),), (1,), ALIKE[1], 999), (0, 0)), False)
        self.assertIs(is_parting((((0, -1),), (1,), ALIKE[1], 999), (0,)), False)

    def test_a_number_more_or_less(self):
        for thing in (FIRST_OF_ROW[:5], FIRST_OF_ROW[1:], FIRST_OF_ROW + (3,), (1,) + FIRST_OF_ROW, ()):
            self.assertIs(is_parting(ROW, thing), False)

    def test_a_holder_who_has_no_claim(self):
        for number in (0, 2, 4, -1, LARGE, -LARGE):
            self.assertIs(is_parting(ROW, (number, 1, 3, 3, 3, 3)), False)
            self.assertIs(is_parting(ROW, (1, 1, 3, 3, 3, number)), False)
            self.assertIs(is_parting(ROW, (number,) * 6), False)

    def test_truths_and_lists(self):
        for thing in (
            list(FIRST_OF_ROW), (True, True, 3, 3, 3, 3), (1, True, 3, 3, 3, 3), ((1,), 1, 3, 3, 3, 3),
            ([1], 1, 3, 3, 3, 3), ("1", 1, 3, 3, 3, 3), (FIRST_OF_ROW,), [FIRST_OF_ROW], "113333",
            {1: 1, 3: 3}, (None, 1, 3, 3, 3, 3),
        ):
            self.assertIs(answer_of(is_parting, ROW, thing), False, looks(thing))
        two = (((1, -1, 1),), (1,), ALIKE[1], 0)
        for thing in ((0, 1), (1, 0)):
            self.assertIs(is_parting(two, thing), True)
        for thing in ((False, True), (False, 1), (0, True), (True, 0), (1, False), [0, 1]):
            self.assertIs(is_parting(two, thing), False)

    def test_things_of_any_kind(self):
        for thing in THINGS:
            for asked in (thing, (thing,), (thing,) * 6, [thing] * 6):
                self.assertIs(answer_of(is_parting, ROW, asked), False, looks(asked))
        for thing in OTHER_THAN_NUMBERS:
            for at in range(6):
                asked = FIRST_OF_ROW[:at] + (thing,) + FIRST_OF_ROW[at + 1:]
                self.assertIs(answer_of(is_parting, ROW, asked), False, looks(asked))

    def test_against_a_plain_search(self):
        for plea in SMALL_PLEAS:
            cells, holders = plain_cells(plea[0]), plain_holders(plea[2])
            if len(holders) ** len(cells) <= 100:
                partings = plain_partings(plea)
                for numbers in product(holders, repeat=len(cells)):
                    self.assertIs(is_parting(plea, numbers), numbers in partings, (plea, numbers))


class LandOf(unittest.TestCase):
    def test_lands(self):
        self.assertEqual(looks(land_of(ROW, FIRST_OF_ROW, 1)), "((0, 0), (0, 1))")
        self.assertEqual(looks(land_of(ROW, FIRST_OF_ROW, 3)), "((0, 2), (0, 3), (0, 4), (0, 5))")
        self.assertEqual(land_of(NEAR, (1, 1, 1, 1, 1, 0, 0, 0), 0), ((2, 0), (2, 1), (2, 2)))

    def test_all_lands_make_the_mead(self):
        for plea in SMALL_PLEAS:
            parting = first_parting(plea)
            if parting is not None:
                for holder in plain_holders(plea[2]):
                    land = plain_land(plea[0], parting, holder)
                    self.assertEqual(looks(land_of(plea, parting, holder)), looks(land))


class FirstAndMany(unittest.TestCase):
    def test_first(self):
        self.assertEqual(looks(first_parting(ROW)), "(1, 1, 1, 1, 3, 3)")
        self.assertEqual(first_parting(NEAR), (0, 0, 0, 0, 0, 1, 1, 1))
        self.assertEqual(looks(first_parting((((5, -1),), CUSTOM, ((2, 0, 1),), 0))), "(2,)")

    def test_many(self):
        self.assertEqual(looks(many_partings(ROW)), "6")
        self.assertEqual(many_partings(NEAR), 2)
        self.assertEqual(looks(many_partings((((5, -1),), CUSTOM, ((2, 0, 1),), 0))), "1")

    def test_none(self):
        for plea in (
            (((5, -2),), CUSTOM, ((2, 0, 1),), 0), (((5, -1),), (1,), ALIKE[1], 999), (BLOCK, (1,), ALIKE[0], 999),
            (CHESS, (1,), ALIKE[3], 999), (ROW[0], (1,), ((0, 0, 1), (1, 0, 4)), 0),
        ):
            self.assertIs(first_parting(plea), None)
            self.assertEqual(looks(many_partings(plea)), "0")

    def test_against_a_plain_search(self):
        found = 0
        for plea in SMALL_PLEAS:
            partings = plain_partings(plea)
            found += len(partings) > 1
            self.assertEqual(looks(answer_of(first_parting, plea)), looks(partings[0] if partings else None), plea)
            self.assertEqual(looks(answer_of(many_partings, plea)), looks(len(partings)), plea)
        self.assertGreater(found, 50)

    def test_against_a_plain_search_of_eight_and_ten_cells(self):
        for plea in (
            (STRIPS, (1,), ALIKE[1], 5), (STRIPS, (1,), ALIKE[2], 9), (STRIPS, CUSTOM, ALIKE[3], 8), NEAR,
            (TEN, (1,), ALIKE[1], 1), (TEN, (1, 2), ((1, 0, 1), (2, 1, 1)), 3),
        ):
            partings = plain_partings(plea)
            self.assertEqual(looks(first_parting(plea)), looks(partings[0] if partings else None), plea)
            self.assertEqual(many_partings(plea), len(partings), plea)

    def test_ten_cells_among_four(self):
        ahead = time.process_time()
        plea = (TEN, (1,), ALIKE[3], 999)
        self.assertEqual(first_parting(plea), (0, 0, 0, 0, 0, 0, 0, 1, 2, 3))
        # 678 ways to cut the block into four, each told by the four in 24 orders.
        self.assertEqual(many_partings(plea), 678 * 24)
        plea = (TEN, (1,), ALIKE[3], 0)
        self.assertEqual((first_parting(plea), many_partings(plea)), (None, 0))
        plea = (TEN, (1,), ((0, 0, 3), (1, 0, 3), (2, 0, 2), (3, 0, 2)), 0)
        self.assertEqual(first_parting(plea), (0, 0, 0, 1, 1, 2, 2, 3, 3, 1))
        self.assertLess(time.process_time() - ahead, 20)

    def test_what_is_told_may_be_handed_in_again(self):
        for plea in SMALL_PLEAS:
            parting = first_parting(plea)
            if parting is not None:
                self.assertIs(is_parting(plea, parting), True)


class Refusals(unittest.TestCase):
    bad_pleas = (NoPlea, NO_PLEAS)
    bad_partings = (NoParting, (
        (1, 3, 3, 3, 3, 3), (1,) * 6, FIRST_OF_ROW[1:], FIRST_OF_ROW + (3,), list(FIRST_OF_ROW), [FIRST_OF_ROW],
        (True, True, 3, 3, 3, 3), (0, 0, 3, 3, 3, 3), (1, 1, 3, 3, 3, LARGE), None,
    ) + THINGS)
    bad_holders = (NoHolder, (0, 2, 4, -1, LARGE, True, (1,), [1], "1", {1: 1}) + OTHER_THAN_NUMBERS)

    def test_each_of_what_is_handed_in(self):
        for ask in (first_parting, many_partings):
            self.assertEqual(faults_of_refusals(ask, (ROW,), (self.bad_pleas,)), [])
        self.assertEqual(faults_of_refusals(is_parting, (ROW, FIRST_OF_ROW), (self.bad_pleas,)), [])
        bad = (self.bad_pleas, self.bad_partings, self.bad_holders)
        self.assertEqual(faults_of_refusals(land_of, (ROW, FIRST_OF_ROW, 1), bad), [])

    def test_no_plea_ahead_of_what_is_no_parting(self):
        for thing in THINGS:
            self.assertIs(answer_of(is_parting, ROW[:3], thing), NoPlea)
            self.assertIs(answer_of(is_parting, thing, thing), NoPlea)

    def test_the_same_answer_again_behind_a_refusal(self):
        ahead = looks([first_parting(ROW), many_partings(ROW), land_of(ROW, FIRST_OF_ROW, 1)])
        self.assertIs(answer_of(land_of, ROW, FIRST_OF_ROW, 2), NoHolder)
        self.assertIs(answer_of(land_of, ROW, (1,) * 6, 1), NoParting)
        self.assertIs(answer_of(first_parting, ROW[:2]), NoPlea)
        self.assertEqual(looks([first_parting(ROW), many_partings(ROW), land_of(ROW, FIRST_OF_ROW, 1)]), ahead)


if __name__ == "__main__":
    unittest.main()

"""Who has how far to go [5.1], [5.2], and what [0.2] to [0.5] ask of them."""

import time
import unittest

from meadshares.errors import NoHolder, NoHouses, NoNumber, NoParting, NoPlea
from meadshares.houses import far_of, farthest_of, nearest_parting, parted_within
from meadshares.partings import first_parting, is_parting
from tests.helpers import (
    ALIKE, BLOCK, HOUSES, HOUSES_OF_ALL, LARGE, NO_HOUSES, NO_PLEAS, OTHER_THAN_NUMBERS, ROW, SMALL_PLEAS, STRIPS, TEN,
    TEN_PLEAS, THINGS, answer_of, faults_of_refusals, looks, partings_by_lands, plain_far, plain_farthest,
    plain_holders, plain_land, plain_partings,
)

PARTING = (1, 1, 3, 3, 3, 3)
# Three holders with lands on both sides of a road.
SIDES = (((1, 1, 1), (-1, -1, -1), (1, 1, 1)), (1,), ALIKE[2], 2)
NO_PARTING = (BLOCK, (1,), ALIKE[1], 999)


def living(place, holder=1):
    """Houses with the holder at the place, the others far out."""
    houses = [(99, 99)] * 4
    houses[holder] = place
    return tuple(houses)


def plain_nearest(plea, houses, partings):
    return min([(plain_farthest(plea, houses, parting), parting) for parting in partings], default=None)


def plain_within(plea, houses, number, partings):
    return min([parting for parting in partings if plain_farthest(plea, houses, parting) <= number], default=None)


class FarOf(unittest.TestCase):
    def test_on_the_land_and_next_to_it(self):
        # Holder 1 has (0, 0) and (0, 1), holder 3 has (0, 2) to (0, 5).
        for place, far in (((0, 0), 0), ((0, 1), 0), ((0, 2), 1), ((0, 5), 4), ((1, 0), 1), ((1, 1), 1), ((1, 2), 2),
                           ((-1, 0), 1), ((0, -1), 1), ((-1, -1), 2), ((3, 4), 6)):
            self.assertEqual(looks(far_of(ROW, living(place), PARTING, 1)), looks(far), place)
        for place, far in (((0, 2), 0), ((0, 5), 0), ((0, 3), 0), ((0, 1), 1), ((0, 0), 2), ((0, 6), 1), ((2, 9), 6)):
            self.assertEqual(looks(far_of(ROW, living(place, 3), PARTING, 3)), looks(far), place)

    def test_as_far_out_as_may_be(self):
        for place, far in (((-99, -99), 198), ((99, 99), 99 + 98), ((-99, 99), 99 + 98), ((99, -99), 198),
                           ((-99, 0), 99), ((0, 99), 98), ((0, -99), 99), ((99, 1), 99)):
            self.assertEqual(far_of(ROW, living(place), PARTING, 1), far, place)

    def test_one_beyond(self):
        for place in ((-100, 0), (100, 0), (0, -100), (0, 100)):
            for holder in range(4):
                self.assertIs(answer_of(far_of, ROW, living(place, holder), PARTING, 1), NoHouses)

    def test_each_holder_goes_from_their_own_house(self):
        houses = ((0, 9), (0, 3), (0, 9), (0, 1))
        self.assertEqual(far_of(ROW, houses, PARTING, 1), 2)
        self.assertEqual(far_of(ROW, houses, PARTING, 3), 1)
        self.assertEqual(far_of(ROW, houses, (3, 3, 1, 1, 1, 1), 1), 0)
        self.assertEqual(far_of(ROW, houses, (3, 3, 1, 1, 1, 1), 3), 0)

    def test_all_holders_of_small_pleas(self):
        for plea in SMALL_PLEAS:
            for parting in plain_partings(plea)[:2]:
                for houses in HOUSES_OF_ALL[:3]:
                    for holder in plain_holders(plea[2]):
                        far = plain_far(houses[holder], plain_land(plea[0], parting, holder))
                        self.assertEqual(looks(answer_of(far_of, plea, houses, parting, holder)), looks(far), plea)


class FarthestOf(unittest.TestCase):
    def test_the_greatest_of_all_holders(self):
        self.assertEqual(looks(farthest_of(ROW, ((0, 9), (0, 3), (0, 9), (0, 1)), PARTING)), "2")
        self.assertEqual(farthest_of(ROW, ((0, 9), (0, 3), (0, 9), (0, -2)), PARTING), 4)
        self.assertEqual(farthest_of(ROW, ((0, 9), (0, 0), (0, 9), (0, 2)), PARTING), 0)

    def test_who_has_no_claim_does_not_count(self):
        self.assertEqual(farthest_of(ROW, ((99, 99), (0, 0), (-99, 99), (0, 2)), PARTING), 0)

    def test_all_small_pleas(self):
        for plea in SMALL_PLEAS:
            for parting in plain_partings(plea)[:3]:
                for houses in HOUSES_OF_ALL:
                    far = plain_farthest(plea, houses, parting)
                    self.assertEqual(looks(answer_of(farthest_of, plea, houses, parting)), looks(far), plea)


class NearestParting(unittest.TestCase):
    def test_nearest(self):
        self.assertEqual(looks(nearest_parting(ROW, living((0, 5)))), "(193, (1, 1, 1, 1, 3, 3))")
        self.assertEqual(nearest_parting(ROW, ((9, 9), (0, 5), (9, 9), (0, 0))), (0, (3, 3, 1, 1, 1, 1)))
        self.assertEqual(nearest_parting(ROW, ((9, 9), (0, 5), (9, 9), (0, 4))), (1, (3, 3, 3, 3, 1, 1)))

    def test_the_first_of_several_as_near(self):
        self.assertEqual(nearest_parting(ROW, ((0, 0), (0, 0), (0, 0), (0, 5))), (0, (1, 1, 1, 1, 3, 3)))
        self.assertEqual(nearest_parting(ROW, ((0, 0), (0, 5), (0, 0), (0, 0))), (0, (3, 3, 1, 1, 1, 1)))
        self.assertEqual(nearest_parting(ROW, ((0, 0), (2, 0), (0, 0), (2, 0))), (4, (1, 1, 3, 3, 3, 3)))

    def test_none(self):
        for houses in HOUSES_OF_ALL:
            self.assertIs(nearest_parting(NO_PARTING, houses), None)

    def test_against_all_partings(self):
        found = 0
        for plea in SMALL_PLEAS:
            for houses in HOUSES_OF_ALL:
                nearest = plain_nearest(plea, houses, plain_partings(plea))
                found += nearest is not None and nearest[1] != plain_partings(plea)[0]
                self.assertEqual(looks(answer_of(nearest_parting, plea, houses)), looks(nearest), (plea, houses))
        self.assertGreater(found, 100)

    def test_against_all_partings_of_eight_and_ten_cells(self):
        for plea in ((STRIPS, (1,), ALIKE[1], 5), (STRIPS, (1,), ALIKE[2], 9)) + TEN_PLEAS:
            for houses in HOUSES_OF_ALL:
                nearest = plain_nearest(plea, houses, partings_by_lands(plea))
                self.assertEqual(looks(nearest_parting(plea, houses)), looks(nearest), (plea, houses))

    def test_ten_cells_among_four_in_time(self):
        ahead = time.process_time()
        plea = (TEN, (1,), ALIKE[3], 999)
        # The cells go from (1, 0) to (2, 4): all can live on their land, in the corners.
        self.assertEqual(nearest_parting(plea, ((1, 0), (1, 4), (2, 0), (2, 4))), (0, (0, 0, 0, 0, 1, 2, 0, 0, 0, 3)))
        self.assertEqual(nearest_parting(plea, ((0, 0),) * 4), (3, (0, 0, 1, 1, 1, 2, 3, 1, 1, 1)))
        apart = (((1, 1, 1, 1, 1, -2), (1, 1, 1, 1, -2, 1), (-1,) * 4 + (-2, -2)), (1,), ALIKE[3], 999)
        self.assertIs(nearest_parting(apart, ((-99, -99), (99, 99), (0, 0), (9, 2))), None)
        self.assertLess(time.process_time() - ahead, 20)


class PartedWithin(unittest.TestCase):
    def test_just_the_least_one_less_and_one_more(self):
        # 1 lives at the right end, 3 next to it: the least is 1, with 1's land at that end.
        houses = ((9, 9), (0, 5), (9, 9), (0, 4))
        self.assertIs(parted_within(ROW, houses, 0), None)
        self.assertEqual(looks(parted_within(ROW, houses, 1)), "(3, 3, 3, 3, 1, 1)")
        self.assertEqual(parted_within(ROW, houses, 2), (1, 1, 1, 1, 3, 3))
        self.assertEqual(parted_within(ROW, houses, 999), (1, 1, 1, 1, 3, 3))

    def test_the_first_of_several(self):
        houses = ((9, 9), (0, 5), (9, 9), (0, 3))
        for number, parting in ((0, (3, 3, 3, 3, 1, 1)), (1, (3, 3, 3, 1, 1, 1)), (2, (1, 1, 1, 1, 3, 3))):
            self.assertEqual(parted_within(ROW, houses, number), parting)

    def test_none(self):
        for houses in HOUSES_OF_ALL:
            for number in (0, 1, 500, 999):
                self.assertIs(parted_within(NO_PARTING, houses, number), None)

    def test_the_borders_of_the_number(self):
        far_out = ((-99, -99), (99, 99), (-99, 99), (99, -99))
        self.assertIs(parted_within(ROW, far_out, 0), None)
        self.assertEqual(parted_within(ROW, far_out, 999), first_parting(ROW))
        for number in (-1, 1000, True, False, LARGE, -LARGE, "1", None, (1,), [1]):
            self.assertIs(answer_of(parted_within, ROW, far_out, number), NoNumber, looks(number))

    def test_against_all_partings(self):
        for plea in SMALL_PLEAS[::2]:
            for houses in HOUSES_OF_ALL[::2]:
                nearest = plain_nearest(plea, houses, plain_partings(plea))
                least = 3 if nearest is None else nearest[0]
                for number in {max(least - 1, 0), least, least + 1, least + 3, 0, 999}:
                    within = plain_within(plea, houses, number, plain_partings(plea))
                    told = answer_of(parted_within, plea, houses, number)
                    self.assertEqual(looks(told), looks(within), (plea, houses, number))

    def test_none_for_each_number_less_than_that_of_the_nearest_alone(self):
        for plea in (ROW, SIDES, (STRIPS, (1,), ALIKE[2], 9)) + TEN_PLEAS[:1]:
            for houses in HOUSES_OF_ALL[3:]:
                least, parting = nearest_parting(plea, houses)
                self.assertEqual(farthest_of(plea, houses, parting), least)
                for number in range(least + 6):
                    within = parted_within(plea, houses, number)
                    self.assertIs(within is None, number < least)
                    if within is not None:
                        self.assertLessEqual(farthest_of(plea, houses, within), number)
                self.assertEqual(parted_within(plea, houses, least), parting)

    def test_against_all_partings_of_ten_cells(self):
        for plea in TEN_PLEAS:
            for houses in HOUSES_OF_ALL[3:]:
                for number in (0, 1, 2, 3, 4, 5, 7, 999):
                    within = plain_within(plea, houses, number, partings_by_lands(plea))
                    self.assertEqual(looks(parted_within(plea, houses, number)), looks(within), (plea, houses))


class Refusals(unittest.TestCase):
    bad_pleas = (NoPlea, NO_PLEAS)
    bad_houses = (NoHouses, NO_HOUSES + THINGS)
    bad_partings = (NoParting, (
        (1, 3, 3, 3, 3, 3), (1,) * 6, PARTING[1:], PARTING + (3,), list(PARTING), (True, True, 3, 3, 3, 3),
        (0, 0, 3, 3, 3, 3),
    ) + THINGS)
    bad_holders = (NoHolder, (0, 2, 4, -1, LARGE, True, (1,), [1], "1", {1: 1}) + OTHER_THAN_NUMBERS)
    bad_numbers = (NoNumber, (-1, 1000, LARGE, -LARGE, True, False, "5", (5,), [5]) + OTHER_THAN_NUMBERS)

    def test_far_of(self):
        bad = (self.bad_pleas, self.bad_houses, self.bad_partings, self.bad_holders)
        self.assertEqual(faults_of_refusals(far_of, (ROW, HOUSES, PARTING, 1), bad), [])

    def test_farthest_of(self):
        bad = (self.bad_pleas, self.bad_houses, self.bad_partings)
        self.assertEqual(faults_of_refusals(farthest_of, (ROW, HOUSES, PARTING), bad), [])

    def test_nearest_parting(self):
        self.assertEqual(faults_of_refusals(nearest_parting, (ROW, HOUSES), (self.bad_pleas, self.bad_houses)), [])

    def test_parted_within(self):
        bad = (self.bad_pleas, self.bad_houses, self.bad_numbers)
        self.assertEqual(faults_of_refusals(parted_within, (ROW, HOUSES, 5), bad), [])

    def test_refused_also_where_there_is_no_parting(self):
        self.assertIs(answer_of(nearest_parting, NO_PARTING, HOUSES[:3]), NoHouses)
        self.assertIs(answer_of(parted_within, NO_PARTING, HOUSES[:3], 1000), NoHouses)
        self.assertIs(answer_of(parted_within, NO_PARTING, HOUSES, 1000), NoNumber)
        self.assertIs(answer_of(farthest_of, NO_PARTING, HOUSES, (0, 0, 0, 0, 1, 1, 1, 1, 1)), NoParting)

    def test_the_parting_of_another_plea(self):
        narrow = ROW[:3] + (0,)
        self.assertIs(answer_of(far_of, narrow, HOUSES, PARTING, 1), NoParting)
        self.assertIs(answer_of(farthest_of, narrow, HOUSES, PARTING), NoParting)

    def test_the_same_answer_again(self):
        def told():
            return looks([
                far_of(ROW, HOUSES, PARTING, 1), farthest_of(ROW, HOUSES, PARTING), nearest_parting(ROW, HOUSES),
                parted_within(ROW, HOUSES, 120), nearest_parting(SIDES, HOUSES),
            ])

        ahead = told()
        self.assertIs(answer_of(far_of, ROW, HOUSES, PARTING, 0), NoHolder)
        self.assertIs(answer_of(parted_within, ROW, HOUSES, -1), NoNumber)
        far_of(ROW, HOUSES_OF_ALL[1], (3, 3, 1, 1, 1, 1), 1)
        nearest_parting(ROW, HOUSES_OF_ALL[4])
        self.assertEqual(told(), ahead)

    def test_what_is_told_may_be_handed_in_again(self):
        for houses in HOUSES_OF_ALL:
            many, parting = nearest_parting(SIDES, houses)
            self.assertIs(is_parting(SIDES, parting), True)
            self.assertEqual(parted_within(SIDES, houses, many), parting)


if __name__ == "__main__":
    unittest.main()

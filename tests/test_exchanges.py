"""Exchanges [8.1], [8.2], and what [0.2] to [0.5] ask of them."""

import time
import unittest
from itertools import combinations

from meadshares.errors import NoHolder, NoHouses, NoParting, NoPlea, NoWill
from meadshares.exchanges import exchanged, settled, who_would, would_exchange
from meadshares.houses import far_of
from meadshares.partings import first_parting, is_parting
from tests.helpers import (
    ALIKE, HOUSES, HOUSES_OF_ALL, LARGE, NO_HOUSES, NO_PLEAS, OTHER_THAN_NUMBERS, ROW, SMALL_PLEAS, TEN, TEN_PLEAS,
    THINGS, answer_of, faults_of_refusals, looks, partings_by_lands, plain_far, plain_holders, plain_land,
    plain_partings,
)

HALVES = (1, 1, 1, 3, 3, 3)
TURNED = (3, 3, 3, 1, 1, 1)
# 1 lives at the right end, 3 at the left one.
CROSSED = ((0, 0), (0, 5), (0, 0), (0, 0))
# Four cells along a road, one for each of four holders.
FOUR = (((1, 1, 1, 1), (-1, -1, -1, -1)), (1,), ALIKE[3], 0)
MIRRORED = ((0, 3), (0, 2), (0, 1), (0, 0))
LEFT_AND_RIGHT = ((0, 3), (0, 3), (0, 0), (0, 0))


def plain_turned(parting, one, other):
    return tuple(other if number == one else one if number == other else number for number in parting)


def plain_would(plea, houses, parting, one, other, partings):
    """Whether the two would exchange, told by the words of the document."""
    then = plain_turned(parting, one, other)
    return then in partings and all(
        plain_far(houses[who], plain_land(plea[0], then, who)) < plain_far(houses[who], land)
        for who, land in ((who, plain_land(plea[0], parting, who)) for who in (one, other))
    )


def plain_pairs(plea, houses, parting, partings):
    return [pair for pair in combinations(plain_holders(plea[2]), 2)
            if plain_would(plea, houses, parting, *pair, partings)]


def plain_settled(plea, houses, parting, partings):
    pairs = plain_pairs(plea, houses, parting, partings)
    return plain_settled(plea, houses, plain_turned(parting, *pairs[0]), partings) if pairs else parting


def ways_to_go(plea, houses, parting):
    return [plain_far(houses[who], plain_land(plea[0], parting, who)) for who in plain_holders(plea[2])]


class WouldExchange(unittest.TestCase):
    def test_two_who_would(self):
        self.assertIs(would_exchange(ROW, CROSSED, HALVES, 1, 3), True)
        self.assertIs(would_exchange(ROW, CROSSED, HALVES, 3, 1), True)
        self.assertEqual(looks(exchanged(ROW, CROSSED, HALVES, 1, 3)), looks(TURNED))
        self.assertEqual(looks(exchanged(ROW, CROSSED, HALVES, 3, 1)), looks(TURNED))
        self.assertEqual(looks(who_would(ROW, CROSSED, HALVES)), "[(1, 3)]")

    def test_who_live_on_their_land(self):
        self.assertIs(would_exchange(ROW, CROSSED, TURNED, 1, 3), False)
        self.assertIs(answer_of(exchanged, ROW, CROSSED, TURNED, 1, 3), NoWill)
        self.assertEqual(looks(who_would(ROW, CROSSED, TURNED)), "[]")

    def test_one_who_has_no_less_far(self):
        for houses in (
            ((0, 0), (0, 5), (0, 0), (0, 5)),    # 3 lives on the land
            ((0, 0), (0, 0), (0, 0), (0, 0)),    # 1 lives on the land
            ((0, 0), (0, 0), (0, 0), (0, 5)),    # both do
            ((0, 0), (0, 4), (0, 0), (0, 3)),    # 3 lives on the land, next to the other's
        ):
            self.assertIs(would_exchange(ROW, houses, HALVES, 1, 3), False, houses)
            self.assertIs(would_exchange(ROW, houses, HALVES, 3, 1), False, houses)
            self.assertIs(answer_of(exchanged, ROW, houses, HALVES, 1, 3), NoWill, houses)
            self.assertIs(answer_of(exchanged, ROW, houses, HALVES, 3, 1), NoWill, houses)
            self.assertEqual(who_would(ROW, houses, HALVES), [])

    def test_one_who_has_as_far_as_now(self):
        # Two cells with a road between them: from the road, and from above it, both are as far.
        plea = (((1, -1, 1),), (1,), ALIKE[1], 0)
        for house in ((0, 1), (5, 1), (-3, 1)):
            for houses in (((0, 2), house, (0, 0), (0, 0)), (house, (0, 0), (0, 0), (0, 0)), (house,) * 4):
                self.assertIs(would_exchange(plea, houses, (0, 1), 0, 1), False)
                self.assertIs(answer_of(exchanged, plea, houses, (0, 1), 0, 1), NoWill)
        self.assertIs(would_exchange(plea, ((0, 2), (0, 0), (0, 0), (0, 0)), (0, 1), 0, 1), True)

    def test_where_it_were_no_parting(self):
        unlike = (ROW[0], (1,), ((1, 0, 1), (3, 0, 2)), 0)
        self.assertIs(is_parting(unlike, (1, 1, 3, 3, 3, 3)), True)
        self.assertIs(would_exchange(unlike, CROSSED, (1, 1, 3, 3, 3, 3), 1, 3), False)
        self.assertIs(answer_of(exchanged, unlike, CROSSED, (1, 1, 3, 3, 3, 3), 1, 3), NoWill)
        self.assertEqual(who_would(unlike, CROSSED, (1, 1, 3, 3, 3, 3)), [])
        self.assertEqual(settled(unlike, CROSSED, (1, 1, 3, 3, 3, 3)), (1, 1, 3, 3, 3, 3))
        # With odd enough it is one.
        self.assertIs(would_exchange(unlike[:3] + (4,), CROSSED, (1, 1, 3, 3, 3, 3), 1, 3), True)

    def test_others_keep_their_land(self):
        self.assertEqual(exchanged(FOUR, MIRRORED, (0, 1, 2, 3), 0, 3), (3, 1, 2, 0))
        self.assertEqual(exchanged(FOUR, MIRRORED, (0, 1, 2, 3), 2, 1), (0, 2, 1, 3))

    def test_against_the_words(self):
        told = {True: 0, False: 0}
        for plea in SMALL_PLEAS[::3] + (FOUR, ROW):
            partings = plain_partings(plea)
            for parting in partings[:5]:
                for houses in HOUSES_OF_ALL[:5]:
                    for one, other in combinations(plain_holders(plea[2]), 2):
                        would = plain_would(plea, houses, parting, one, other, partings)
                        told[would] += 1
                        due = plain_turned(parting, one, other) if would else NoWill
                        for two in ((one, other), (other, one)):
                            self.assertIs(answer_of(would_exchange, plea, houses, parting, *two), would)
                            self.assertEqual(answer_of(exchanged, plea, houses, parting, *two), due)
        self.assertGreater(min(told.values()), 50)


class WhoWould(unittest.TestCase):
    def test_the_rising_list(self):
        self.assertEqual(looks(who_would(FOUR, MIRRORED, (0, 1, 2, 3))), "[(0, 3), (1, 2)]")
        self.assertEqual(who_would(FOUR, LEFT_AND_RIGHT, (0, 1, 2, 3)), [(0, 2), (0, 3), (1, 2), (1, 3)])
        self.assertEqual(who_would(FOUR, ((0, 3), (0, 3), (0, 3), (0, 0)), (0, 1, 2, 3)), [(0, 3), (1, 3), (2, 3)])
        self.assertEqual(who_would(FOUR, MIRRORED, (3, 2, 1, 0)), [])

    def test_one_holder_alone(self):
        plea = (((5, -1),), (1,), ((2, 0, 1),), 0)
        self.assertEqual(looks(who_would(plea, HOUSES, (2,))), "[]")
        self.assertEqual(looks(settled(plea, HOUSES, (2,))), "(2,)")

    def test_against_the_words(self):
        for plea in SMALL_PLEAS[1::3] + (FOUR, ROW):
            for parting in plain_partings(plea)[:6]:
                for houses in HOUSES_OF_ALL:
                    pairs = plain_pairs(plea, houses, parting, plain_partings(plea))
                    self.assertEqual(looks(answer_of(who_would, plea, houses, parting)), looks(pairs), (plea, parting))

    def test_the_list_told_is_the_askers_own(self):
        told = who_would(FOUR, MIRRORED, (0, 1, 2, 3))
        told.append((2, 3))
        told[0] = None
        self.assertEqual(who_would(FOUR, MIRRORED, (0, 1, 2, 3)), [(0, 3), (1, 2)])
        who_would(FOUR, MIRRORED, (0, 1, 2, 3)).clear()
        self.assertEqual(who_would(FOUR, MIRRORED, (0, 1, 2, 3)), [(0, 3), (1, 2)])
        who_would(FOUR, MIRRORED, (3, 2, 1, 0)).append((0, 1))
        self.assertEqual(who_would(FOUR, MIRRORED, (3, 2, 1, 0)), [])


class Settled(unittest.TestCase):
    def test_pair_by_pair(self):
        self.assertEqual(looks(settled(ROW, CROSSED, HALVES)), looks(TURNED))
        self.assertEqual(settled(ROW, CROSSED, TURNED), TURNED)
        self.assertEqual(settled(FOUR, MIRRORED, (0, 1, 2, 3)), (3, 2, 1, 0))
        # Of four pairs (0, 2) goes first, then (0, 3), then (1, 3).
        self.assertEqual(settled(FOUR, LEFT_AND_RIGHT, (0, 1, 2, 3)), (2, 3, 1, 0))
        # In turn each exchanges with 3, who comes ever nearer.
        self.assertEqual(settled(FOUR, ((0, 1), (0, 2), (0, 3), (0, 0)), (0, 1, 2, 3)), (3, 0, 1, 2))

    def test_by_who_would_till_there_is_none(self):
        longest = 0
        for plea in (FOUR, ROW, (TEN, (1,), ALIKE[1], 2)) + TEN_PLEAS[:1]:
            partings = partings_by_lands(plea)
            for parting in partings[::len(partings) // 12 + 1]:
                for houses in HOUSES_OF_ALL + (LEFT_AND_RIGHT, MIRRORED):
                    at, gone = parting, 0
                    while who_would(plea, houses, at):
                        at, gone = exchanged(plea, houses, at, *who_would(plea, houses, at)[0]), gone + 1
                    longest = max(longest, gone)
                    self.assertEqual(looks(answer_of(settled, plea, houses, parting)), looks(at))
                    self.assertEqual(settled(plea, houses, at), at)
                    ahead, behind = ways_to_go(plea, houses, parting), ways_to_go(plea, houses, at)
                    self.assertTrue(all(far <= had for far, had in zip(behind, ahead)))
                    self.assertIs(sum(behind) < sum(ahead), gone > 0)
        self.assertGreater(longest, 2)

    def test_against_the_words(self):
        for plea in SMALL_PLEAS[2::3] + (FOUR, ROW):
            for parting in plain_partings(plea)[:4]:
                for houses in HOUSES_OF_ALL:
                    due = plain_settled(plea, houses, parting, plain_partings(plea))
                    self.assertEqual(looks(settled(plea, houses, parting)), looks(due), (plea, houses, parting))

    def test_ten_cells_among_four_in_time(self):
        ahead = time.process_time()
        plea = (TEN, (1,), ALIKE[3], 999)
        parting = first_parting(plea)
        for houses in HOUSES_OF_ALL:
            told = settled(plea, houses, parting)
            self.assertEqual(who_would(plea, houses, told), [])
            self.assertIs(is_parting(plea, told), True)
        self.assertLess(time.process_time() - ahead, 20)


class Refusals(unittest.TestCase):
    bad_pleas = (NoPlea, NO_PLEAS)
    bad_houses = (NoHouses, NO_HOUSES + THINGS)
    bad_partings = (NoParting, (
        (1, 3, 3, 3, 3, 3), (1,) * 6, HALVES[1:], HALVES + (3,), list(HALVES), (True, True, True, 3, 3, 3),
        (0, 0, 0, 3, 3, 3),
    ) + THINGS)
    bad_ones = (NoHolder, (0, 2, 4, -1, LARGE, True, (1,), [1], "1", {1: 1}) + OTHER_THAN_NUMBERS)
    # For the other it is no better to be 1 again.
    bad_others = (NoHolder, (1,) + bad_ones[1])

    def test_of_two_holders(self):
        bad = (self.bad_pleas, self.bad_houses, self.bad_partings, self.bad_ones, self.bad_others)
        for ask in (would_exchange, exchanged):
            self.assertEqual(faults_of_refusals(ask, (ROW, CROSSED, HALVES, 1, 3), bad), [])

    def test_of_a_parting(self):
        bad = (self.bad_pleas, self.bad_houses, self.bad_partings)
        for ask in (who_would, settled):
            self.assertEqual(faults_of_refusals(ask, (ROW, CROSSED, HALVES), bad), [])
        alone = (((5, -1),), (1,), ((2, 0, 1),), 0)
        for ask in (who_would, settled):
            self.assertIs(answer_of(ask, alone, HOUSES[:3], (2,)), NoHouses)
            self.assertIs(answer_of(ask, alone, HOUSES, (0,)), NoParting)

    def test_the_two_holders_are_one(self):
        for houses in (CROSSED, HOUSES):
            for who in (1, 3):
                self.assertIs(answer_of(would_exchange, ROW, houses, HALVES, who, who), NoHolder)
                self.assertIs(answer_of(exchanged, ROW, houses, HALVES, who, who), NoHolder)

    def test_no_holder_ahead_of_no_will(self):
        self.assertIs(answer_of(exchanged, ROW, CROSSED, TURNED, 1, 2), NoHolder)
        self.assertIs(answer_of(exchanged, ROW, CROSSED, TURNED, 3, 3), NoHolder)
        self.assertIs(answer_of(exchanged, ROW, CROSSED, TURNED, 1, 3), NoWill)

    def test_the_same_answer_again(self):
        def told():
            return looks([
                would_exchange(ROW, CROSSED, HALVES, 1, 3), exchanged(ROW, CROSSED, HALVES, 1, 3),
                who_would(ROW, CROSSED, HALVES), settled(ROW, CROSSED, HALVES), far_of(ROW, CROSSED, HALVES, 1),
            ])

        ahead = told()
        self.assertIs(answer_of(exchanged, ROW, CROSSED, TURNED, 1, 3), NoWill)
        settled(FOUR, MIRRORED, (0, 1, 2, 3))
        self.assertEqual(told(), ahead)


if __name__ == "__main__":
    unittest.main()

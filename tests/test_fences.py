"""Bounds that move [6.1], [6.2], and what [0.2] to [0.5] ask of them."""

import time
import unittest
from itertools import product

from meadshares.errors import NoDealt, NoPlea
from meadshares.fences import fences_moved, fences_of, fewest_moved, is_dealt
from meadshares.partings import first_parting
from tests.helpers import (
    ALIKE, BLOCK, CHESS, LARGE, LONG, MEAD, MEADS, NO_PLEAS, ONE, OTHER_THAN_NUMBERS, ROW, SMALL_PLEAS, STRIPS,
    TEN, TEN_PLEAS, THINGS, answer_of, faults_of_refusals, looks, partings_by_lands, plain_cells, plain_fences,
    plain_partings,
)

# Of BLOCK, three rows of three.
DEALT = (BLOCK, (0, 0, 1, 0, 2, 1, 3, 3, 3))
TWO = (((4, 5),), (0, 3))
SQUARE = ((1, 2), (3, 4))
NO_PARTING = (BLOCK, (1,), ALIKE[1], 999)


def dealings(mead):
    """Some ways to deal the mead: all as one, by turns, and by rules that leave pieces of many forms."""
    many = len(plain_cells(mead))
    return [
        (0,) * many, (3,) * many, tuple(k % 4 for k in range(many)), tuple(k // 3 % 4 for k in range(many)),
        tuple(k * k % 4 for k in range(many)), tuple((7 * k + 1) // 2 % 3 for k in range(many)),
        tuple(1 if k < many // 2 else 2 for k in range(many)), tuple(k // 2 * 3 % 4 for k in range(many)),
    ]


def plain_moved(mead, numbers, others):
    return len(plain_fences(mead, numbers) ^ plain_fences(mead, others))


def plain_fewest(plea, numbers, partings):
    return min([(plain_moved(plea[0], numbers, parting), parting) for parting in partings], default=None)


class IsDealt(unittest.TestCase):
    def test_dealt_meads(self):
        for dealt in (DEALT, TWO, (ONE, (0,)), (ONE, (3,)), (MEAD, (0, 1, 2, 3, 0, 1, 2)), (BLOCK, (2,) * 9)):
            self.assertIs(is_dealt(dealt), True)
        for mead in MEADS:
            for numbers in dealings(mead):
                self.assertIs(answer_of(is_dealt, (mead, numbers)), True)

    def test_each_number_at_each_place(self):
        for at in range(9):
            for number in range(-3, 8):
                numbers = DEALT[1][:at] + (number,) + DEALT[1][at + 1:]
                self.assertIs(is_dealt((BLOCK, numbers)), 0 <= number <= 3, numbers)

    def test_a_number_more_or_less(self):
        for mead in MEADS:
            many = len(plain_cells(mead))
            for length in range(many + 4):
                self.assertIs(is_dealt((mead, (1,) * length)), length == many)
        # Roads and water have no number.
        self.assertIs(is_dealt((LONG, (0,) * 6)), False)
        self.assertIs(is_dealt((LONG, (0,) * 5)), False)
        self.assertIs(is_dealt((LONG, (0,) * 4)), True)

    def test_another_mead(self):
        for mead in (((4, 5, 6),), ((4,),), ((4, 100),), ((4, -3),), [(4, 5)], ([4, 5],), ((4, True),), (), 4, None):
            self.assertIs(answer_of(is_dealt, (mead, (0, 3))), False, looks(mead))

    def test_other_forms(self):
        for thing in (
            list(TWO), (TWO[0],), TWO + (0,), TWO + ((),), (TWO[1], TWO[0]), (TWO,), [TWO], {TWO[0]: TWO[1]},
            (TWO[0], [0, 3]), (TWO[0], "03"), (TWO[0], {0: 0, 3: 3}), (TWO[0], ((0,), (3,))), (TWO[0], (0, (3,))),
            (TWO[0], ([0], 3)), (TWO[0], 0), (TWO[0], None), (TWO[0], ()), (), TWO[0], TWO[1],
        ):
            self.assertIs(answer_of(is_dealt, thing), False, looks(thing))

    def test_truths(self):
        for numbers in ((True, 0), (0, True), (False, 1), (1, False), (True, True)):
            self.assertIs(is_dealt((TWO[0], numbers)), False)
        self.assertIs(is_dealt((((True, 0),), (0, 0))), False)

    def test_things_of_any_kind(self):
        for thing in THINGS:
            for asked in (thing, (thing, thing), (thing, (0,)), (ONE, thing), (BLOCK, (thing,)), (ONE, [thing])):
                self.assertIs(answer_of(is_dealt, asked), False, looks(asked))
        for thing in OTHER_THAN_NUMBERS + (LARGE, -LARGE):
            for at in range(9):
                asked = (BLOCK, DEALT[1][:at] + (thing,) + DEALT[1][at + 1:])
                self.assertIs(answer_of(is_dealt, asked), False, looks(asked))


class FencesOf(unittest.TestCase):
    def test_across_rows_and_columns(self):
        self.assertEqual(looks(fences_of(TWO)), "[((0, 0), (0, 1))]")
        self.assertEqual(fences_of((((4,), (5,)), (0, 3))), [((0, 0), (1, 0))])
        self.assertEqual(fences_of((SQUARE, (0, 1, 1, 0))), [
            ((0, 0), (0, 1)), ((0, 0), (1, 0)), ((0, 1), (1, 1)), ((1, 0), (1, 1)),
        ])
        self.assertEqual(fences_of((SQUARE, (2, 2, 3, 3))), [((0, 0), (1, 0)), ((0, 1), (1, 1))])
        self.assertEqual(fences_of((SQUARE, (2, 3, 2, 3))), [((0, 0), (0, 1)), ((1, 0), (1, 1))])
        self.assertEqual(fences_of((SQUARE, (1, 1, 1, 0))), [((0, 1), (1, 1)), ((1, 0), (1, 1))])

    def test_none_between_like_numbers(self):
        for mead in MEADS:
            for number in range(4):
                self.assertEqual(looks(fences_of((mead, (number,) * len(plain_cells(mead))))), "[]")

    def test_none_at_a_road_at_water_or_at_the_rim(self):
        self.assertEqual(fences_of((((1, -1, 2),), (0, 1))), [])
        self.assertEqual(fences_of((((1, -2, 2),), (0, 1))), [])
        self.assertEqual(fences_of((((1,), (-1,), (2,)), (0, 1))), [])
        self.assertEqual(fences_of((CHESS, tuple(k % 4 for k in range(10)))), [])
        self.assertEqual(fences_of((ONE, (3,))), [])
        # The end of one row and the beginning of the next one are apart.
        self.assertEqual(fences_of((((1, 1), (-2, 2)), (0, 0, 1))), [((0, 1), (1, 1))])
        self.assertEqual(fences_of((((-2, 1), (2, -2)), (0, 1))), [])

    def test_a_mead_with_all_in_it(self):
        self.assertEqual(fences_of(DEALT), [
            ((0, 1), (0, 2)), ((0, 1), (1, 1)), ((1, 0), (1, 1)), ((1, 0), (2, 0)), ((1, 1), (1, 2)), ((1, 1), (2, 1)),
            ((1, 2), (2, 2)),
        ])
        self.assertEqual(fences_of((MEAD, (0, 1, 2, 3, 0, 1, 2))), [
            ((0, 0), (0, 1)), ((0, 3), (1, 3)), ((1, 3), (2, 3)), ((2, 2), (2, 3)),
        ])

    def test_the_rising_list_of_all(self):
        for mead in MEADS + (TEN, STRIPS, SQUARE):
            for numbers in dealings(mead):
                told = answer_of(fences_of, (mead, numbers))
                self.assertEqual(looks(told), looks(sorted(plain_fences(mead, numbers))), (mead, numbers))

    def test_the_list_told_is_the_askers_own(self):
        told = fences_of(DEALT)
        ahead = looks(told)
        told.append(told[0])
        told[0] = ((9, 9), (9, 9))
        self.assertEqual(looks(fences_of(DEALT)), ahead)
        fences_of(DEALT).clear()
        self.assertEqual(looks(fences_of(DEALT)), ahead)


class FencesMoved(unittest.TestCase):
    def test_of_two_alike(self):
        for mead in MEADS:
            for numbers in dealings(mead):
                self.assertEqual(looks(fences_moved((mead, numbers), (mead, numbers))), "0")
        self.assertEqual(fences_moved((SQUARE, (0, 1, 0, 1)), (SQUARE, (3, 2, 3, 2))), 0)
        self.assertEqual(fences_moved((SQUARE, (0, 0, 0, 0)), (SQUARE, (2, 2, 2, 2))), 0)

    def test_fences_in_just_one_of_both(self):
        for others, moved in (((0, 0, 0, 0), 2), ((0, 1, 0, 1), 0), ((0, 0, 1, 1), 4), ((0, 1, 1, 0), 2),
                              ((0, 1, 0, 0), 2), ((0, 1, 0, 2), 1), ((0, 1, 2, 3), 2), ((0, 1, 2, 1), 1)):
            self.assertEqual(looks(fences_moved((SQUARE, (0, 1, 0, 1)), (SQUARE, others))), looks(moved), others)

    def test_either_way_the_same(self):
        for mead in MEADS + (TEN,):
            for numbers in dealings(mead):
                for others in dealings(mead):
                    moved = plain_moved(mead, numbers, others)
                    self.assertEqual(fences_moved((mead, numbers), (mead, others)), moved)
                    self.assertEqual(fences_moved((mead, others), (mead, numbers)), moved)

    def test_a_second_one_of_another_mead(self):
        for mead in (((1, 2), (3, 5)), ((1, 2), (4, 3)), ((1, 2, 3, 4),), ((1,), (2,), (3,), (4,)),
                     ((1, 2), (3, 4), (-1, -1)), ((1, 2, -2), (3, 4, -2))):
            self.assertIs(is_dealt((mead, (0, 1, 0, 1))), True)
            self.assertIs(answer_of(fences_moved, (SQUARE, (0, 1, 0, 1)), (mead, (0, 1, 0, 1))), NoDealt)
            self.assertIs(answer_of(fences_moved, (mead, (0, 1, 0, 1)), (SQUARE, (0, 1, 0, 1))), NoDealt)


class FewestMoved(unittest.TestCase):
    def test_fewest(self):
        mead = ROW[0]
        self.assertEqual(looks(fewest_moved(ROW, (mead, (1, 1, 3, 3, 3, 3)))), "(0, (1, 1, 3, 3, 3, 3))")
        self.assertEqual(fewest_moved(ROW, (mead, (0, 0, 2, 2, 2, 2))), (0, (1, 1, 3, 3, 3, 3)))
        self.assertEqual(fewest_moved(ROW, (mead, (0, 0, 0, 1, 2, 2))), (1, (1, 1, 1, 1, 3, 3)))
        self.assertEqual(fewest_moved(ROW, (mead, (0, 1, 1, 1, 1, 1))), (2, (1, 1, 1, 1, 3, 3)))
        self.assertEqual(fewest_moved(ROW, (mead, (0,) * 6)), (1, (1, 1, 1, 1, 3, 3)))
        self.assertEqual(fewest_moved(ROW, (mead, (0, 1, 0, 1, 0, 1))), (4, (1, 1, 1, 1, 3, 3)))
        self.assertEqual(fewest_moved(ROW, (mead, (0, 1, 2, 2, 2, 3))), (2, (1, 1, 3, 3, 3, 3)))

    def test_the_first_of_several_that_move_as_few(self):
        # The same fences are had by the two either way: the first is told, whoever had which land.
        self.assertEqual(fewest_moved(ROW, (ROW[0], (3, 3, 1, 1, 1, 1))), (0, (1, 1, 3, 3, 3, 3)))
        self.assertEqual(fewest_moved(ROW, (ROW[0], (1, 1, 2, 2, 3, 3))), (1, (1, 1, 1, 1, 3, 3)))

    def test_none(self):
        for numbers in dealings(BLOCK):
            self.assertIs(fewest_moved(NO_PARTING, (BLOCK, numbers)), None)

    def test_nothing_moves_from_a_parting(self):
        stays = 0
        for plea in SMALL_PLEAS[::3]:
            for parting in plain_partings(plea)[:4]:
                many, told = fewest_moved(plea, (plea[0], parting))
                self.assertEqual(looks(many), "0")
                alike = [other for other in plain_partings(plea)
                         if plain_fences(plea[0], other) == plain_fences(plea[0], parting)]
                self.assertEqual(told, min(alike))
                stays += told == parting
        self.assertGreater(stays, 100)

    def test_against_all_partings(self):
        for plea in SMALL_PLEAS:
            for numbers in dealings(plea[0]):
                fewest = plain_fewest(plea, numbers, plain_partings(plea))
                told = answer_of(fewest_moved, plea, (plea[0], numbers))
                self.assertEqual(looks(told), looks(fewest), (plea, numbers))

    def test_against_all_partings_and_all_dealings(self):
        mead = ((-1, -1), (2, 3), (5, 7), (-1, -1))
        for claims in ALIKE:
            plea = (mead, (1,), claims, 9)
            self.assertNotEqual(plain_partings(plea), ())
            for numbers in product(range(4), repeat=4):
                fewest = plain_fewest(plea, numbers, plain_partings(plea))
                self.assertEqual(looks(fewest_moved(plea, (mead, numbers))), looks(fewest), numbers)

    def test_against_all_partings_of_eight_and_ten_cells(self):
        for plea in ((STRIPS, (1,), ALIKE[1], 5), (STRIPS, (1,), ALIKE[2], 9)) + TEN_PLEAS:
            for numbers in dealings(plea[0]):
                fewest = plain_fewest(plea, numbers, partings_by_lands(plea))
                self.assertEqual(looks(fewest_moved(plea, (plea[0], numbers))), looks(fewest), (plea, numbers))

    def test_ten_cells_among_four_in_time(self):
        ahead = time.process_time()
        plea = (TEN, (1,), ALIKE[3], 999)
        for numbers in dealings(TEN):
            many, parting = fewest_moved(plea, (TEN, numbers))
            self.assertEqual(fences_moved((TEN, numbers), (TEN, parting)), many)
        # Three lands of one cell each, together in a corner, take five fences.
        self.assertEqual(fewest_moved(plea, (TEN, (0,) * 10)), (5, (0, 0, 0, 0, 1, 0, 0, 0, 2, 3)))
        self.assertLess(time.process_time() - ahead, 20)


class Refusals(unittest.TestCase):
    bad_dealt = (NoDealt, (
        (BLOCK, DEALT[1][1:]), (BLOCK, DEALT[1] + (0,)), (BLOCK, (4,) + DEALT[1][1:]), (BLOCK, (-1,) + DEALT[1][1:]),
        (BLOCK, (True,) + DEALT[1][1:]), (BLOCK, list(DEALT[1])), list(DEALT), DEALT + (0,), (DEALT[1], BLOCK), BLOCK,
        (BLOCK, LARGE), (BLOCK, (LARGE,) * 9),
    ) + THINGS)

    def test_each_of_what_is_handed_in(self):
        self.assertEqual(faults_of_refusals(fences_of, (DEALT,), (self.bad_dealt,)), [])
        self.assertEqual(faults_of_refusals(fences_moved, (DEALT, DEALT), (self.bad_dealt, self.bad_dealt)), [])
        bad = ((NoPlea, NO_PLEAS), self.bad_dealt)
        self.assertEqual(faults_of_refusals(fewest_moved, (NO_PARTING, DEALT), bad), [])
        self.assertEqual(faults_of_refusals(fewest_moved, (ROW, (ROW[0], (1, 1, 3, 3, 3, 3))), bad), [])

    def test_a_dealt_mead_of_another_mead(self):
        numbers = (1, 1, 3, 3, 3, 3)
        for dealt in (DEALT, TWO, (ROW[0][:1], numbers), (((2, 2, 2, 2, 2, 3), (-1,) * 6), numbers),
                      (((2,) * 6, (-2,) * 6), numbers)):
            self.assertIs(is_dealt(dealt), True)
            self.assertIs(answer_of(fewest_moved, ROW, dealt), NoDealt, dealt)
        self.assertIs(answer_of(fewest_moved, NO_PARTING, TWO), NoDealt)

    def test_the_same_answer_again(self):
        def told():
            return looks([
                fences_of(DEALT), fences_moved(DEALT, (BLOCK, (0,) * 9)), fewest_moved(ROW, (ROW[0], (0,) * 6)),
            ])

        ahead = told()
        self.assertIs(answer_of(fewest_moved, ROW, DEALT), NoDealt)
        self.assertIs(answer_of(fences_moved, DEALT, TWO), NoDealt)
        fewest_moved(ROW, (ROW[0], (1, 1, 3, 3, 3, 3)))
        self.assertEqual(told(), ahead)

    def test_what_is_told_may_be_handed_in_again(self):
        for numbers in dealings(ROW[0]):
            many, parting = fewest_moved(ROW, (ROW[0], numbers))
            self.assertEqual(fences_moved((ROW[0], numbers), (ROW[0], parting)), many)
            self.assertEqual(fewest_moved(ROW, (ROW[0], first_parting(ROW))), (0, first_parting(ROW)))


if __name__ == "__main__":
    unittest.main()

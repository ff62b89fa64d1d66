"""Pleas and lands that fit [3.1], [3.2], and what [0.2] to [0.5] ask of them."""

import unittest

from meadshares.errors import NoHolder, NoLand, NoPlea
from meadshares.pleas import due_of, fit_lands, fits_holder, is_plea
from tests.helpers import (
    ALIKE, BLOCK, CHESS, CLAIMS, CUSTOM, LARGE, MEAD, OTHER_THAN_NUMBERS, PLEA, RING, SMALL_PLEAS, STRIPS, TEN, THINGS,
    all_tuples, answer_of, faults_of_refusals, looks, plain_cells, plain_due, plain_fits, plain_holders,
)

NO_PLEAS = (
    (), PLEA[:3], PLEA[1:], PLEA + (0,), PLEA + PLEA, list(PLEA), (PLEA,), [PLEA], (list(PLEA),),
    (PLEA[1], PLEA[0], PLEA[2], PLEA[3]), PLEA[::-1], {0: PLEA}, looks(PLEA),
    (list(STRIPS), CUSTOM, CLAIMS, 0), (STRIPS, list(CUSTOM), CLAIMS, 0), (STRIPS, CUSTOM, list(CLAIMS), 0),
    (STRIPS, CUSTOM, CLAIMS, [0]), (STRIPS, CUSTOM, CLAIMS, (0,)), (STRIPS, CUSTOM, CLAIMS, "0"),
    (STRIPS, CUSTOM, CLAIMS, None), (STRIPS, CUSTOM, CLAIMS, True), (STRIPS, CUSTOM, CLAIMS, False),
    (STRIPS, CUSTOM, CLAIMS, -1), (STRIPS, CUSTOM, CLAIMS, 1000), (STRIPS, CUSTOM, CLAIMS, LARGE),
    (STRIPS, CUSTOM, CLAIMS, -LARGE), (STRIPS, CUSTOM, ((0, 3, 1),), 0), (STRIPS, (1, 1), CLAIMS, 0),
    (STRIPS, (1, 1), ((0, 0, 1), (1, 2, 1)), 0), (STRIPS, CUSTOM, (), 0), (STRIPS, CUSTOM, ((0, 0, 1), (0, 0, 2)), 0),
    (STRIPS, CUSTOM, ((0, 0, True),), 0), (STRIPS, (), CLAIMS, 0), (STRIPS, (3, 5, 101), CLAIMS, 0),
    (STRIPS, (3, 5, True), CLAIMS, 0), (((-1,),), CUSTOM, CLAIMS, 0), (((True, -1),), CUSTOM, CLAIMS, 0),
    ((), CUSTOM, CLAIMS, 0), (((1, 100),), CUSTOM, CLAIMS, 0),
)
# Of PLEA, whose holders are 0, 1 and 3.
NO_HOLDERS = (2, 4, -1, LARGE, -LARGE, (0,), [0], "0", {0: 0}, (0, 1)) + OTHER_THAN_NUMBERS
# Of STRIPS; () is one.
NO_LANDS = (
    [], ((1, 0),), ((0, 4),), ((-1, 0),), ((0, 1), (0, 0)), ((0, 0), (0, 0)), ((False, 0),), ((0, True),), ([0, 0],),
    [(0, 0)], (0, 0), ((0, 0, 0),), ((0, 0), (1, 0)), ((0, 0), None),
) + tuple(thing for thing in THINGS if thing != ())


def two_of(mead, odd):
    """A plea of two holders with like shares."""
    return (mead, (1,), ALIKE[1], odd)


class IsPlea(unittest.TestCase):
    def test_pleas(self):
        for plea in SMALL_PLEAS + (PLEA, (TEN, (100,), ALIKE[3], 999), (CHESS, (1,) * 6, ((3, 5, 20),), 0)):
            self.assertIs(is_plea(plea), True, plea)

    def test_each_odd(self):
        for odd in list(range(-10, 1010)) + [LARGE, -LARGE]:
            self.assertIs(is_plea(PLEA[:3] + (odd,)), 0 <= odd <= 999, odd)

    def test_sorts_and_customs(self):
        for many in range(1, 7):
            for sort in range(6):
                self.assertIs(is_plea((MEAD, (9,) * many, ((0, 0, 1), (2, sort, 20)), 0)), sort < many)
                self.assertIs(is_plea((MEAD, (9,) * many, ((2, sort, 20),), 0)), sort < many)

    def test_what_is_none(self):
        for thing in NO_PLEAS:
            self.assertIs(answer_of(is_plea, thing), False, looks(thing))

    def test_things_of_any_kind(self):
        for thing in THINGS:
            for asked in (thing, (thing,), (thing,) * 4, [thing] * 4):
                self.assertIs(answer_of(is_plea, asked), False, looks(asked))
            for at in range(4):
                asked = PLEA[:at] + (thing,) + PLEA[at + 1:]
                expected = at == 3 and thing.__class__ is int and 0 <= thing <= 999
                self.assertIs(answer_of(is_plea, asked), expected, looks(asked))


class Dues(unittest.TestCase):
    def test_dues(self):
        self.assertEqual([due_of(PLEA, holder) for holder in (0, 1, 3)], [(520, 53), (400, 53), (1200, 53)])
        self.assertEqual(looks([due_of(two_of(STRIPS, 0), holder) for holder in (0, 1)]), "[(20, 1), (20, 1)]")
        self.assertEqual(due_of((STRIPS, (1,), ALIKE[2], 7), 1), (40, 3))
        self.assertEqual(looks(due_of((BLOCK, (1,), ((2, 0, 3),), 0), 2)), "(45, 1)")
        self.assertEqual(due_of(((CHESS), (2, 3), ((0, 0, 3), (1, 1, 3)), 0), 0), (22, 1))

    def test_a_mead_that_is_worth_nothing(self):
        for mead in (((0,),), ((0, -1), (0, -2)), ((0,) * 5,) * 2):
            for holder in (0, 1, 3):
                self.assertEqual(looks(due_of((mead, CUSTOM, CLAIMS, 0), holder)), "(0, 1)")

    def test_against_pythons_own_fractions(self):
        for plea in SMALL_PLEAS:
            for holder in plain_holders(plea[2]):
                due = plain_due(plea, holder)
                self.assertEqual(looks(due_of(plea, holder)), looks((due.numerator, due.denominator)), plea)


class Fits(unittest.TestCase):
    def test_just_odd_less_and_one_beyond(self):
        # 16 of 20.
        for odd, fits in ((0, False), (3, False), (4, True), (5, True), (999, True)):
            self.assertIs(fits_holder(two_of(STRIPS, odd), 0, ((2, 0),)), fits, odd)

    def test_just_odd_more_and_one_beyond(self):
        # 25 of 20.
        for odd, fits in ((0, False), (4, False), (5, True), (6, True), (999, True)):
            self.assertIs(fits_holder(two_of(STRIPS, odd), 1, ((2, 0), (2, 1), (2, 2), (2, 3))), fits, odd)

    def test_a_due_that_is_not_whole(self):
        # 16 and 12, where the due is 40 thirds.
        for odd, first, second in ((0, False, False), (1, False, False), (2, False, True), (3, True, True)):
            plea = (STRIPS, (1,), ALIKE[2], odd)
            self.assertIs(fits_holder(plea, 2, ((2, 0),)), first, odd)
            self.assertIs(fits_holder(plea, 2, ((0, 2), (0, 3))), second, odd)

    def test_just_the_due(self):
        plea = (STRIPS, (1,), ((0, 0, 1), (1, 0, 4)), 0)
        self.assertIs(fits_holder(plea, 0, ((0, 3),)), True)
        self.assertIs(fits_holder(plea, 1, ((0, 3),)), False)

    def test_hanging_together(self):
        plea = two_of(STRIPS, 999)
        self.assertIs(fits_holder(plea, 0, ((0, 0), (0, 1))), True)
        self.assertIs(fits_holder(plea, 0, ((0, 0), (0, 2))), False)
        self.assertIs(fits_holder(plea, 0, ((0, 0), (2, 0))), False)
        self.assertIs(fits_holder(plea, 0, ()), False)
        self.assertIs(fits_holder(two_of(((0, -1), (0, -1)), 0), 0, ()), False)

    def test_at_a_road(self):
        plea = two_of(((5, 5, -1), (5, 5, -2)), 999)
        for land, fits in ((((0, 1),), True), (((0, 0),), False), (((1, 0), (1, 1)), False), (((0, 1), (1, 1)), True)):
            self.assertIs(fits_holder(plea, 1, land), fits, land)
        for land in all_tuples(plain_cells(BLOCK)):
            self.assertIs(fits_holder(two_of(BLOCK, 999), 0, land), False)

    def test_the_rising_list_of_all_that_fit(self):
        self.assertEqual(looks(fit_lands(two_of(((4, -1, 4),), 0), 0)), "[((0, 0),), ((0, 2),)]")
        self.assertEqual(fit_lands(two_of(((1, 2, 3), (-1, -1, -1)), 0), 1), [((0, 0), (0, 1)), ((0, 2),)])
        self.assertEqual(fit_lands((STRIPS, (1,), ((0, 0, 1), (1, 0, 4)), 1), 0),
                         [((0, 0), (0, 1), (0, 2)), ((0, 3),), ((2, 1), (2, 2), (2, 3))])

    def test_none_fits(self):
        for plea in (two_of(BLOCK, 999), two_of(((1, -1, 9),), 3), two_of(((5, -2), (-2, 5)), 999)):
            self.assertEqual(looks(fit_lands(plea, 0)), "[]")

    def test_against_a_plain_search(self):
        more = tuple(two_of(mead, odd) for mead in (MEAD, STRIPS, RING) for odd in (0, 5, 64, 999)) + (PLEA,)
        for plea in SMALL_PLEAS + more:
            lands = sorted(all_tuples(plain_cells(plea[0])))
            for holder in plain_holders(plea[2]):
                fit = [land for land in lands if plain_fits(plea, holder, land)]
                self.assertEqual(looks(fit_lands(plea, holder)), looks(fit), (plea, holder))
                if len(lands) <= 32:
                    for land in lands:
                        self.assertIs(fits_holder(plea, holder, land), land in fit, (plea, holder, land))

    def test_ten_cells(self):
        self.assertEqual(len(fit_lands((TEN, (1,), ALIKE[3], 999), 0)), 275)

    def test_the_list_told_is_the_askers_own(self):
        ahead = looks(fit_lands(PLEA, 0))
        told = fit_lands(PLEA, 0)
        told.append("mine")
        told.reverse()
        self.assertEqual(looks(fit_lands(PLEA, 0)), ahead)
        told.clear()
        self.assertEqual(looks(answer_of(fit_lands, PLEA, 0)), ahead)
        fit_lands(two_of(BLOCK, 0), 0).append("mine")
        self.assertEqual(fit_lands(two_of(BLOCK, 0), 0), [])

    def test_what_is_told_may_be_handed_in_again(self):
        for land in fit_lands(PLEA, 3):
            self.assertIs(fits_holder(PLEA, 3, land), True)


class Refusals(unittest.TestCase):
    def test_each_of_what_is_handed_in(self):
        pleas, holders, lands = (NoPlea, NO_PLEAS + THINGS), (NoHolder, NO_HOLDERS), (NoLand, NO_LANDS)
        land = ((0, 0), (0, 1))
        self.assertEqual(faults_of_refusals(due_of, (PLEA, 0), (pleas, holders)), [])
        self.assertEqual(faults_of_refusals(fit_lands, (PLEA, 0), (pleas, holders)), [])
        self.assertEqual(faults_of_refusals(fits_holder, (PLEA, 0, land), (pleas, holders, lands)), [])

    def test_each_number_for_a_holder(self):
        for number in range(-3, 8):
            for ask, rest in ((due_of, ()), (fit_lands, ()), (fits_holder, (((0, 0),),))):
                self.assertIs(answer_of(ask, PLEA, number, *rest) is NoHolder, number not in (0, 1, 3))

    def test_the_same_answer_again_behind_a_refusal(self):
        ahead = looks([due_of(PLEA, 0), fit_lands(PLEA, 0)])
        self.assertIs(answer_of(due_of, PLEA, 2), NoHolder)
        self.assertIs(answer_of(fit_lands, PLEA[:3], 0), NoPlea)
        self.assertIs(answer_of(fits_holder, PLEA, 0, [(0, 0)]), NoLand)
        self.assertEqual(looks([due_of(PLEA, 0), fit_lands(PLEA, 0)]), ahead)


if __name__ == "__main__":
    unittest.main()

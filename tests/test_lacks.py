"""Lacks [4.3], and what [0.2] to [0.5] ask of them."""

import unittest

from meadshares.errors import NoPlea
from meadshares.lacks import first_lack, is_lack
from meadshares.partings import first_parting, many_partings
from tests.helpers import (
    ALIKE, BLOCK, CHESS, CLAIMS, LARGE, OTHER_THAN_NUMBERS, SMALL_PLEAS, STRIPS, TEN, THINGS, all_tuples, answer_of,
    faults_of_refusals, looks, plain_cells, plain_due, plain_fits, plain_holders,
)

# Three holders, and but two cells.
FEW = (((3, -1, 3),), (1,), ((0, 0, 1), (1, 0, 1), (3, 0, 1)), 1)
# Dues of 50 and 50, and one land of two cells that fits either; the last cell lies at no road.
POOR = (((50, 0, -1, -2, 50),), (1,), ALIKE[1], 24)


def plain_candidates(plea):
    """All tuples (holders, cells) that may be lacks, each with whether it is one."""
    mead, _, claims, odd = plea
    cells, told = plain_cells(mead), []
    fits = {holder: [land for land in all_tuples(cells) if plain_fits(plea, holder, land)]
            for holder in plain_holders(claims)}
    for holders in all_tuples(plain_holders(claims)):
        if holders:
            reached = tuple(cell for cell in cells if any(cell in land for holder in holders for land in fits[holder]))
            due = sum(plain_due(plea, holder) - odd for holder in holders)
            lacks = len(reached) < len(holders) or sum(mead[r][c] for r, c in reached) < due
            told.append(((holders, reached), lacks))
    return sorted(told)


class IsLack(unittest.TestCase):
    def test_too_few_cells(self):
        self.assertIs(is_lack(FEW, ((0, 1, 3), ((0, 0), (0, 2)))), True)
        for holders in ((0,), (1,), (3,), (0, 1), (0, 3), (1, 3)):
            self.assertIs(is_lack(FEW, (holders, ((0, 0), (0, 2)))), False)
        # Nothing is worth anything: they are too few by their number alone.
        nothing = (((0, -1),), (1,), ALIKE[1], 0)
        self.assertIs(is_lack(nothing, ((0, 1), ((0, 0),))), True)
        self.assertIs(is_lack(nothing, ((0,), ((0, 0),))), False)

    def test_no_cell_at_all(self):
        plea = (BLOCK, (1,), ALIKE[1], 999)
        for holders in ((0,), (1,), (0, 1)):
            self.assertIs(is_lack(plea, (holders, ())), True)

    def test_too_little_worth(self):
        self.assertIs(is_lack(POOR, ((0, 1), ((0, 0), (0, 1)))), True)
        self.assertIs(is_lack(POOR, ((0,), ((0, 0), (0, 1)))), False)
        self.assertIs(is_lack(POOR, ((1,), ((0, 0), (0, 1)))), False)

    def test_just_enough_worth(self):
        for odd, lacks in ((0, True), (23, True), (24, True), (25, False), (26, False), (49, False)):
            self.assertIs(is_lack(POOR[:3] + (odd,), ((0, 1), ((0, 0), (0, 1)))), lacks, odd)
        # Dues of 101 by 2: at an odd of 25 it lacks 1 to 51.
        plea = (((50, 0, -1, -2, 51),), (1,), ALIKE[1])
        for odd, lacks in ((1, True), (25, True), (26, False)):
            self.assertIs(is_lack(plea + (odd,), ((0, 1), ((0, 0), (0, 1)))), lacks, odd)

    def test_a_due_of_less_than_odd(self):
        # Dues of 10, 45 and 45: less an odd of 20 they are -10, 25 and 25, so 40 of all three and 50 of the last two.
        plea = (((45, 0, 0, -1, -2, 55),), (2,), ((0, 0, 2), (1, 0, 9), (2, 0, 9)), 20)
        cells = ((0, 0), (0, 1), (0, 2))
        self.assertIs(is_lack(plea, ((0, 1, 2), cells)), False)
        self.assertIs(is_lack(plea, ((1, 2), cells)), True)
        self.assertEqual(first_lack(plea), ((1, 2), cells))

    def test_other_holders_or_cells(self):
        lot, cells = (0, 1, 3), ((0, 0), (0, 2))
        for holders in ((), (0, 1, 2), (0, 1, 2, 3), (0, 1, 3, 3), (0, 3, 1), (1, 0, 3), (0, 0, 1, 3), (0, 1, 4),
                        (-1, 0, 1, 3), (0, 1, LARGE), [0, 1, 3], (0, True, 3), (False, 1, 3), ((0,), 1, 3), "013",
                        {0: 0, 1: 1, 3: 3}, ((0, 1, 3),), (None,), None, 0):
            self.assertIs(answer_of(is_lack, FEW, (holders, cells)), False, looks(holders))
        for other in ((), ((0, 0),), ((0, 2),), ((0, 0), (0, 1), (0, 2)), ((0, 2), (0, 0)), ((0, 0), (0, 0), (0, 2)),
                      [(0, 0), (0, 2)], ([0, 0], [0, 2]), ((False, 0), (0, 2)), ((0, False), (0, 2)), (0, 0), None,
                      ((0, 0), (0, 2), (0, 3)), (((0, 0), (0, 2)),), {(0, 0): 0, (0, 2): 0}):
            self.assertIs(answer_of(is_lack, FEW, (lot, other)), False, looks(other))

    def test_a_part_more_or_less(self):
        lot, cells = (0, 1, 3), ((0, 0), (0, 2))
        for thing in ((), (lot,), (cells,), (lot, cells, ()), (cells, lot), [lot, cells], ((lot, cells),),
                      (lot, cells, cells), {0: lot, 1: cells}, None):
            self.assertIs(answer_of(is_lack, FEW, thing), False, looks(thing))

    def test_things_of_any_kind(self):
        lot, cells = (0, 1, 3), ((0, 0), (0, 2))
        for thing in THINGS:
            for asked in (thing, (thing,), (thing, thing), (thing, cells), (lot, thing), [thing, cells]):
                self.assertIs(answer_of(is_lack, FEW, asked), False, looks(asked))
        for thing in OTHER_THAN_NUMBERS:
            for asked in (((thing, 1, 3), cells), ((0, 1, thing), cells), (lot, ((0, thing), (0, 2))),
                          (lot, (thing, (0, 2))), (lot, ((0, 0), thing))):
                self.assertIs(answer_of(is_lack, FEW, asked), False, looks(asked))

    def test_cells_of_nobody_are_no_kind_of_empty(self):
        plea = (BLOCK, (1,), ALIKE[1], 999)
        for cells in ([], {}, "", None, 0, False, ((),)):
            self.assertIs(answer_of(is_lack, plea, ((0,), cells)), False, looks(cells))


class FirstLack(unittest.TestCase):
    def test_first(self):
        self.assertEqual(looks(first_lack(FEW)), "((0, 1, 3), ((0, 0), (0, 2)))")
        self.assertEqual(first_lack(POOR), ((0, 1), ((0, 0), (0, 1))))
        self.assertEqual(looks(first_lack((BLOCK, (1,), ALIKE[2], 999))), "((0,), ())")
        self.assertEqual(first_lack((CHESS, (1,), ((2, 0, 1), (3, 0, 1)), 0)), ((2,), ()))

    def test_none(self):
        for plea in ((TEN, (1,), ALIKE[3], 999), (STRIPS, (1,), ALIKE[1], 5), (((5, -1),), (1,), ALIKE[0], 0)):
            self.assertIs(first_lack(plea), None)

    def test_no_lack_though_no_parting(self):
        for plea in ((((0, -1, 0),), (1,), ALIKE[0], 999), (((1, 2), (3, -1), (4, 5)), (1,), ALIKE[3], 999)):
            self.assertIs(first_parting(plea), None)
            self.assertIs(first_lack(plea), None)

    def test_against_a_plain_search(self):
        firsts = set()
        for plea in SMALL_PLEAS + ((STRIPS, (3, 5, 20), CLAIMS, 3), (TEN, (1,), ALIKE[3], 0)):
            candidates = plain_candidates(plea)
            for asked, lacks in candidates:
                self.assertIs(answer_of(is_lack, plea, asked), lacks, (plea, asked))
            found = [asked for asked, lacks in candidates if lacks]
            self.assertEqual(looks(answer_of(first_lack, plea)), looks(found[0] if found else None), plea)
            firsts.update(asked[0] for asked in found[:1])
            if found:
                self.assertEqual(many_partings(plea), 0)
                self.assertIs(is_lack(plea, first_lack(plea)), True)
        self.assertGreater(len(firsts), 4)


class Refusals(unittest.TestCase):
    def test_no_plea(self):
        things = (FEW[:3], list(FEW), FEW + (0,), FEW[:3] + (1000,), FEW[:3] + (False,), [FEW]) + THINGS
        self.assertEqual(faults_of_refusals(first_lack, (FEW,), ((NoPlea, things),)), [])
        lack = ((0, 1, 3), ((0, 0), (0, 2)))
        self.assertEqual(faults_of_refusals(is_lack, (FEW, lack), ((NoPlea, things),)), [])

    def test_no_plea_ahead_of_what_is_no_lack(self):
        for thing in THINGS:
            self.assertIs(answer_of(is_lack, FEW[:3], thing), NoPlea)

    def test_the_same_answer_again_behind_a_refusal(self):
        ahead = looks(first_lack(FEW))
        self.assertIs(answer_of(first_lack, FEW[:2]), NoPlea)
        self.assertEqual(looks(first_lack(FEW)), ahead)


if __name__ == "__main__":
    unittest.main()

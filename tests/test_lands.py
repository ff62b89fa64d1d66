"""Lands [1.2], and what [0.2] to [0.5] ask of them."""

import unittest
from itertools import permutations

from meadshares.errors import NoLand, NoMead
from meadshares.lands import at_road, hangs_together, is_land, pieces_of, worth_of
from meadshares.meads import cells_of, roads_of
from tests.helpers import (
    BLOCK, CHESS, LARGE, LONG, MEAD, MEADS, ONE, RING, TALL, THINGS, all_tuples, answer_of, are_next, looks,
)

ASKS = (hangs_together, at_road, worth_of, pieces_of)
# Of BLOCK, whose places go from (0, 0) to (2, 2).
NO_LANDS_OF_BLOCK = (
    ((3, 0),), ((0, 3),), ((-1, 0),), ((0, -1),), ((0, 0), (0, 3)), ((0, 0), (9, 9)), ((LARGE, 0),), ((0, -LARGE),),
    ((0, 0), (0, 0)), ((0, 0), (0, 1), (0, 1)), ((0, 1), (0, 0)), ((1, 0), (0, 2)), ((0, 0), (0, 2), (0, 1)),
    ((True, 0),), ((0, True),), ((False, False),), ((0, 0), (0, True)), ((False, 0), (0, 1)), ((0, 0), (True, 2)),
    [], [(0, 0)], [[0, 0]], ([0, 0],), ((0, 0), [0, 1]), ([0, 0], (0, 1)), [(0, 0), (0, 1)],
    (0, 0), (0,), ((0,),), ((0, 0, 0),), (((0, 0),),), ((0, 0), ()), ((0, 0), None), ((0, 0), "01"), ("00",),
    ((0, 0), (0, "1")), ((0, 0), (0, None)), ((0, 0), (0, (1,))), ((0, 0), 1), (1, (0, 0)), {(0, 0): True}, "", None,
)
OTHER_THINGS = tuple(thing for thing in THINGS if thing != ())


def merged(land):
    """The pieces of a land, found by merging pieces that have cells next to one another."""
    pieces = [[cell] for cell in land]
    while True:
        pairs = [(one, other) for one in pieces for other in pieces if one < other
                 and any(are_next(here, there) for here in one for there in other)]
        if not pairs:
            return sorted(tuple(sorted(piece)) for piece in pieces)
        one, other = pairs[0]
        pieces = [piece for piece in pieces if piece not in (one, other)] + [sorted(one + other)]


class IsLand(unittest.TestCase):
    def test_none_one_and_all(self):
        for mead in MEADS:
            self.assertIs(is_land(mead, ()), True)
            self.assertIs(is_land(mead, tuple(cells_of(mead))), True)
            for cell in cells_of(mead):
                self.assertIs(is_land(mead, (cell,)), True)

    def test_each_rising_tuple_of_cells(self):
        for mead in MEADS:
            for land in all_tuples(cells_of(mead)):
                self.assertIs(is_land(mead, land), True, (mead, land))

    def test_each_place_in_and_round_a_mead(self):
        for mead in MEADS:
            cells = cells_of(mead)
            for row in range(-5, 8):
                for column in range(-7, 10):
                    self.assertIs(is_land(mead, ((row, column),)), (row, column) in cells, (mead, row, column))

    def test_road_and_water(self):
        for land in (((1, 0),), ((0, 2),), ((0, 1), (0, 2)), ((0, 0), (1, 1)), ((2, 0), (2, 1), (2, 2))):
            self.assertIs(is_land(MEAD, land), False, land)

    def test_places_out_of_order(self):
        cells = ((0, 0), (0, 2), (1, 1), (2, 0))
        for land in permutations(cells):
            self.assertIs(is_land(BLOCK, land), land == cells, land)

    def test_a_place_twice(self):
        for land in all_tuples(cells_of(MEAD)):
            for at in range(len(land)):
                self.assertIs(is_land(MEAD, land[:at] + land[at:at + 1] + land[at:]), False, land)
                self.assertIs(is_land(MEAD, land + land[at:at + 1]), False, land)

    def test_what_is_none(self):
        for thing in NO_LANDS_OF_BLOCK:
            self.assertIs(answer_of(is_land, BLOCK, thing), False, looks(thing))

    def test_things_of_any_kind(self):
        for mead in (ONE, BLOCK, MEAD):
            for thing in OTHER_THINGS:
                self.assertIs(answer_of(is_land, mead, thing), False, looks(thing))
        for thing in THINGS:
            self.assertIs(answer_of(is_land, BLOCK, (thing,)), False, looks(thing))
            self.assertIs(answer_of(is_land, BLOCK, ((0, 0), thing)), False, looks(thing))
            self.assertIs(answer_of(is_land, BLOCK, (thing, (2, 2))), False, looks(thing))
            if thing.__class__ is not int:
                self.assertIs(answer_of(is_land, BLOCK, ((0, 0), (1, thing))), False, looks(thing))
                self.assertIs(answer_of(is_land, BLOCK, ((0, 0), (thing, 1))), False, looks(thing))


class HowLandsLie(unittest.TestCase):
    def test_the_land_of_no_cells(self):
        for mead in MEADS:
            self.assertIs(hangs_together(mead, ()), False)
            self.assertIs(at_road(mead, ()), False)
            self.assertEqual(looks(worth_of(mead, ())), "0")
            self.assertEqual(looks(pieces_of(mead, ())), "[]")

    def test_lands_of_one_cell(self):
        for mead in MEADS:
            for cell in cells_of(mead):
                self.assertIs(hangs_together(mead, (cell,)), True)
                self.assertEqual(worth_of(mead, (cell,)), mead[cell[0]][cell[1]])
                self.assertEqual(pieces_of(mead, (cell,)), [(cell,)])

    def test_in_one_piece_and_in_several(self):
        self.assertIs(hangs_together(MEAD, ((0, 0), (0, 1))), True)
        self.assertIs(hangs_together(MEAD, ((0, 3), (1, 3), (2, 2), (2, 3))), True)
        self.assertIs(hangs_together(MEAD, ((0, 3), (2, 3))), False)
        self.assertIs(hangs_together(MEAD, ((0, 0), (2, 0))), False)
        self.assertIs(hangs_together(MEAD, ((0, 1), (0, 3))), False)
        self.assertIs(hangs_together(RING, tuple(cells_of(RING))[:3]), True)
        self.assertIs(hangs_together(RING, ((0, 0), (0, 1), (0, 2), (1, 0), (1, 2), (2, 0), (2, 1), (2, 2))), True)
        self.assertIs(hangs_together(RING, tuple(cells_of(RING))), False)

    def test_a_piece_that_winds(self):
        winding = ((0, 0), (0, 1), (0, 2), (1, 2), (2, 0), (2, 1), (2, 2))
        self.assertIs(hangs_together(BLOCK, winding), True)
        self.assertEqual(pieces_of(BLOCK, winding), [winding])
        broken = ((0, 0), (0, 1), (0, 2), (2, 0), (2, 1), (2, 2))
        self.assertEqual(pieces_of(BLOCK, broken), [broken[:3], broken[3:]])

    def test_corners_alone(self):
        self.assertIs(hangs_together(BLOCK, ((0, 0), (1, 1))), False)
        self.assertIs(hangs_together(BLOCK, ((0, 1), (1, 0))), False)
        apart = ((0, 1), (1, 0), (1, 2), (2, 1))
        self.assertEqual(pieces_of(BLOCK, apart), [(cell,) for cell in apart])
        self.assertEqual(pieces_of(CHESS, tuple(cells_of(CHESS))), [(cell,) for cell in cells_of(CHESS)])

    def test_the_ends_of_rows_are_not_next_to_one_another(self):
        self.assertIs(hangs_together(BLOCK, ((0, 2), (1, 0))), False)
        self.assertIs(hangs_together(BLOCK, ((0, 0), (0, 2))), False)
        self.assertIs(hangs_together(BLOCK, ((0, 0), (2, 0))), False)

    def test_pieces_rise(self):
        self.assertEqual(pieces_of(RING, tuple(cells_of(RING))), [
            ((0, 0), (0, 1), (0, 2), (1, 0), (1, 2), (2, 0), (2, 1), (2, 2)), ((0, 4),), ((2, 4),),
        ])
        self.assertEqual(pieces_of(BLOCK, ((0, 0), (0, 2), (1, 0), (1, 2), (2, 0))), [
            ((0, 0), (1, 0), (2, 0)), ((0, 2), (1, 2)),
        ])
        self.assertEqual(looks(pieces_of(MEAD, ((0, 0), (0, 1), (0, 3)))), "[((0, 0), (0, 1)), ((0, 3),)]")

    def test_at_a_road(self):
        self.assertIs(at_road(MEAD, ((0, 0),)), True)
        self.assertIs(at_road(MEAD, ((0, 3),)), False)
        self.assertIs(at_road(MEAD, ((1, 3),)), True)
        self.assertIs(at_road(MEAD, ((2, 0),)), True)
        self.assertIs(at_road(MEAD, ((2, 3),)), False)
        self.assertIs(at_road(MEAD, ((0, 3), (2, 3))), False)
        self.assertIs(at_road(MEAD, ((0, 3), (2, 2), (2, 3))), True)
        self.assertIs(at_road(RING, ((0, 0), (0, 2), (2, 0), (2, 2))), False)
        self.assertIs(at_road(BLOCK, tuple(cells_of(BLOCK))), False)

    def test_a_road_on_each_side(self):
        for road in ((0, 1), (1, 0), (1, 2), (2, 1)):
            mead = tuple(tuple(-1 if (row, column) == road else 5 for column in range(3)) for row in range(3))
            self.assertIs(at_road(mead, ((1, 1),)), True, road)
        for road in ((0, 0), (0, 2), (2, 0), (2, 2)):
            mead = tuple(tuple(-1 if (row, column) == road else 5 for column in range(3)) for row in range(3))
            self.assertIs(at_road(mead, ((1, 1),)), False, road)

    def test_a_road_at_the_other_end_is_not_next(self):
        self.assertIs(at_road(((1, 2, -1),), ((0, 0),)), False)
        self.assertIs(at_road(((1,), (2,), (-1,)), ((0, 0),)), False)
        self.assertIs(at_road(LONG, ((0, 0), (0, 4))), False)
        self.assertIs(at_road(TALL, ((3, 0),)), False)

    def test_worths(self):
        self.assertEqual(worth_of(MEAD, ((0, 0), (1, 3), (2, 2))), 106)
        self.assertEqual(worth_of(BLOCK, tuple(cells_of(BLOCK))), 45)
        self.assertEqual(worth_of(CHESS, ((0, 0), (3, 3))), 11)

    def test_every_land_of_every_mead(self):
        for mead in MEADS:
            roads = roads_of(mead)
            for land in all_tuples(cells_of(mead)):
                pieces = merged(land)
                self.assertEqual(looks(pieces_of(mead, land)), looks(pieces), (mead, land))
                self.assertIs(hangs_together(mead, land), len(pieces) == 1, (mead, land))
                self.assertIs(at_road(mead, land), any(are_next(cell, road) for cell in land for road in roads))
                self.assertEqual(looks(worth_of(mead, land)), looks(sum(mead[row][column] for row, column in land)))

    def test_pieces_may_be_handed_in_again(self):
        for land in all_tuples(cells_of(MEAD)):
            for piece in pieces_of(MEAD, land):
                self.assertIs(is_land(MEAD, piece), True)
                self.assertIs(hangs_together(MEAD, piece), True)

    def test_the_list_told_is_the_askers_own(self):
        land = tuple(cells_of(RING))
        ahead = looks(pieces_of(RING, land))
        told = pieces_of(RING, land)
        told.append("mine")
        told.reverse()
        self.assertEqual(looks(pieces_of(RING, land)), ahead)
        told.clear()
        self.assertEqual(looks(answer_of(pieces_of, RING, land)), ahead)
        pieces_of(RING, ()).append("mine")
        self.assertEqual(pieces_of(RING, ()), [])


class Refusals(unittest.TestCase):
    def test_no_land(self):
        for ask in ASKS:
            for thing in NO_LANDS_OF_BLOCK:
                self.assertIs(answer_of(ask, BLOCK, thing), NoLand, looks(thing))
            for thing in OTHER_THINGS:
                self.assertIs(answer_of(ask, MEAD, thing), NoLand, looks(thing))
                self.assertIs(answer_of(ask, ONE, (thing,)), NoLand, looks(thing))
            for land in (((1, 0),), ((0, 2),), ((2, 1),), ((0, 4),), ((3, 0),)):
                self.assertIs(answer_of(ask, MEAD, land), NoLand, land)

    def test_no_mead_ahead_of_no_land(self):
        for thing in THINGS + ([(1,)], ((True,),), ((1,), (1, 2)), ((-1,),), ((100,),), ((1,) * 6,) * 2, ([1],)):
            for ask in ASKS + (is_land,):
                for land in ((), ((0, 0),), [], ((0, 9),), None, thing):
                    self.assertIs(answer_of(ask, thing, land), NoMead, looks((thing, land)))

    def test_what_is_handed_in_stays_as_it_was(self):
        for ask in ASKS + (is_land,):
            for land in (tuple(cells_of(MEAD)), (), [[0, 0]], ([0, 0], {"a": [1]})):
                ahead = looks(answer_of(ask, MEAD, land))
                self.assertEqual(looks(answer_of(ask, MEAD, land)), ahead)


if __name__ == "__main__":
    unittest.main()

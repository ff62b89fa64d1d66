"""Walks round lands [7.1], [7.2], and what [0.2] to [0.5] ask of them."""

import time
import unittest

from meadshares.errors import NoLand, NoMead, NoWalks
from meadshares.walks import land_in, steps_round, twice_area, walks_hold, walks_of
from tests.helpers import (
    BLOCK, CHESS, LARGE, LONG, MEAD, MEADS, ONE, RING, STRIPS, TALL, TEN, THINGS, all_tuples, answer_of,
    faults_of_refusals, looks, plain_cells,
)

# Stones that lie round the cell at (0, 0), and round that at (1, 1).
FIRST = ((0, 0), (0, 1), (1, 1), (1, 0))
MIDDLE = ((1, 1), (1, 2), (2, 2), (2, 1))
# Eight cells of BLOCK round the middle one; these without a corner.
ROUND = ((0, 0), (0, 1), (0, 2), (1, 0), (1, 2), (2, 0), (2, 1), (2, 2))
NO_CORNER = ROUND[1:]
SHORE = ((0, 0), (0, 1), (0, 2), (0, 3), (1, 3), (2, 3), (3, 3), (3, 2), (3, 1), (3, 0), (2, 0), (1, 0))
HOLE = ((1, 1), (2, 1), (2, 2), (1, 2))
NO_MEADS = ((), [(1, 2)], ((1, 100),), ((1, True),), ((-1,),), ((1, 2), (3,)), [BLOCK], (BLOCK,)) + THINGS
NO_LANDS = (((3, 0),), ((0, 1), (0, 0)), ((0, 0), (0, 0)), [(0, 0)], ((True, 0),), ([0, 0],), (0, 0), []) + tuple(
    thing for thing in THINGS if thing != ())

# Sides of a cell by turns to the right: the place beyond, and the stone where the step along it begins.
BEYOND = ((-1, 0), (0, 1), (1, 0), (0, -1))
BEGIN = ((0, 0), (0, 1), (1, 1), (1, 0))


def beyond(cell, side):
    return (cell[0] + BEYOND[side % 4][0], cell[1] + BEYOND[side % 4][1])


def stone(cell, side):
    return (cell[0] + BEGIN[side % 4][0], cell[1] + BEGIN[side % 4][1])


def gone_on(land, cell, side):
    """The side that comes behind a side, found with one hand on the land: round the corner, straight on, or inwards."""
    ahead = beyond(cell, side + 1)
    if ahead not in land:
        return (cell, (side + 1) % 4)
    if beyond(ahead, side) not in land:
        return (ahead, side)
    return (beyond(ahead, side), (side - 1) % 4)


def plain_walks(land):
    """The rising list of the walks of a land, found from side to side."""
    left = [(cell, side) for cell in land for side in range(4) if beyond(cell, side) not in land]
    walks = []
    while left:
        gone = [left[0]]
        while gone_on(land, *gone[-1]) != gone[0]:
            gone.append(gone_on(land, *gone[-1]))
        left = [open_side for open_side in left if open_side not in gone]
        steps = [(stone(cell, side), stone(cell, side + 1)) for cell, side in gone]
        at = steps.index(min(steps))
        walks.append(tuple(begin for begin, _ in steps[at:] + steps[:at]))
    return sorted(walks)


def put(things, at, thing):
    """A copy of a list or tuple with the thing at a place."""
    return things[:at] + things.__class__([thing]) + things[at + 1:]


def otherwise(walks):
    """Lists, and things that are none, that differ from the list of walks a little."""
    yield from (tuple(walks), [list(walk) for walk in walks], dict(enumerate(walks)), [walks], (walks,), walks[::-1])
    yield from (walks + walks, walks + [()], [()] + walks, walks + [FIRST], walks + [((9, 9),)], walks + [None])
    yield [tuple(list(place) for place in walk) for walk in walks]
    for at, walk in enumerate(walks):
        yield from (walks[:at] + walks[at + 1:], walks[:at] + [walk] + walks[at:])
        for other in walks_otherwise(walk):
            yield put(walks, at, other)


def walks_otherwise(walk):
    """What differs a little from one walk."""
    yield from (walk[::-1], walk[:1] + walk[:0:-1], list(walk), walk + walk, walk + walk[:1], (), None, 0, (walk,))
    for at, (row, column) in enumerate(walk):
        yield from (walk[at:] + walk[:at], walk[:at] + walk[at + 1:], walk[:at] + walk[at:at + 1] + walk[at:])
        for moved in ((row + 1, column), (row, column + 1), (row - 1, column), (row, column - 1), (column, row),
                      (row + LARGE, column), [row, column], (row,), (row, column, 0), (row, None), row, "00"):
            yield put(walk, at, moved)
        for truth in (True, False):
            if row == truth:
                yield put(walk, at, (truth, column))
            if column == truth:
                yield put(walk, at, (row, truth))


class WalksOf(unittest.TestCase):
    def test_no_cell(self):
        for mead in MEADS:
            self.assertEqual(looks(walks_of(mead, ())), "[]")

    def test_one_cell(self):
        self.assertEqual(looks(walks_of(ONE, ((0, 0),))), looks([FIRST]))
        self.assertEqual(walks_of(BLOCK, ((1, 1),)), [MIDDLE])
        self.assertEqual(walks_of(BLOCK, ((2, 0),)), [((2, 0), (2, 1), (3, 1), (3, 0))])
        self.assertEqual(walks_of(LONG, ((0, 4),)), [((0, 4), (0, 5), (1, 5), (1, 4))])

    def test_several_cells(self):
        self.assertEqual(walks_of(BLOCK, ((0, 0), (0, 1))), [((0, 0), (0, 1), (0, 2), (1, 2), (1, 1), (1, 0))])
        self.assertEqual(walks_of(BLOCK, ((0, 0), (1, 0))), [((0, 0), (0, 1), (1, 1), (2, 1), (2, 0), (1, 0))])
        self.assertEqual(walks_of(BLOCK, ((0, 1), (1, 0), (1, 1))), [
            ((0, 1), (0, 2), (1, 2), (2, 2), (2, 1), (2, 0), (1, 0), (1, 1)),
        ])
        self.assertEqual(walks_of(BLOCK, ((0, 0), (0, 1), (1, 0), (1, 1))), [
            ((0, 0), (0, 1), (0, 2), (1, 2), (2, 2), (2, 1), (2, 0), (1, 0)),
        ])
        self.assertEqual(walks_of(BLOCK, tuple(plain_cells(BLOCK))), [SHORE])

    def test_a_hole(self):
        self.assertEqual(walks_of(BLOCK, ROUND), [SHORE, HOLE])
        self.assertEqual(walks_of(RING, ROUND), [SHORE, HOLE])

    def test_pieces(self):
        self.assertEqual(walks_of(BLOCK, ((0, 0), (0, 2), (2, 0))), [
            FIRST, ((0, 2), (0, 3), (1, 3), (1, 2)), ((2, 0), (2, 1), (3, 1), (3, 0)),
        ])
        self.assertEqual(walks_of(TALL, ((0, 0), (2, 0), (3, 0))), [
            FIRST, ((2, 0), (2, 1), (3, 1), (4, 1), (4, 0), (3, 0)),
        ])
        # The walk round the hole comes behind one that begins further up, ahead of one that begins further down.
        self.assertEqual(walks_of(RING, ROUND + ((2, 4),)), [SHORE, HOLE, ((2, 4), (2, 5), (3, 5), (3, 4))])

    def test_cells_that_touch_at_a_stone_alone(self):
        self.assertEqual(walks_of(BLOCK, ((0, 0), (1, 1))), [FIRST, MIDDLE])
        self.assertEqual(walks_of(BLOCK, ((0, 1), (1, 0))), [
            ((0, 1), (0, 2), (1, 2), (1, 1)), ((1, 0), (1, 1), (2, 1), (2, 0)),
        ])
        self.assertEqual(walks_of(CHESS, tuple(plain_cells(CHESS))), [
            ((row, column), (row, column + 1), (row + 1, column + 1), (row + 1, column))
            for row, column in plain_cells(CHESS)
        ])

    def test_a_walk_that_comes_to_a_stone_twice(self):
        # The turn to the right at (1, 1) leads from the shore into the hole, and there out of it again.
        self.assertEqual(walks_of(BLOCK, NO_CORNER), [(
            (0, 1), (0, 2), (0, 3), (1, 3), (2, 3), (3, 3), (3, 2), (3, 1), (3, 0), (2, 0), (1, 0), (1, 1), (2, 1),
            (2, 2), (1, 2), (1, 1),
        )])
        # The same without the opposite corner, too: each half is walked round by itself.
        self.assertEqual(walks_of(BLOCK, ((0, 1), (0, 2), (1, 0), (1, 2), (2, 0), (2, 1))), [
            ((0, 1), (0, 2), (0, 3), (1, 3), (2, 3), (2, 2), (1, 2), (1, 1)),
            ((1, 0), (1, 1), (2, 1), (2, 2), (3, 2), (3, 1), (3, 0), (2, 0)),
        ])

    def test_all_lands(self):
        for mead in (BLOCK, MEAD, LONG, TALL, STRIPS):
            for land in all_tuples(plain_cells(mead)):
                self.assertEqual(looks(answer_of(walks_of, mead, land)), looks(plain_walks(land)), land)
        for mead in (RING, TEN, CHESS):
            for land in all_tuples(plain_cells(mead))[::3]:
                self.assertEqual(looks(walks_of(mead, land)), looks(plain_walks(land)), land)

    def test_the_list_told_is_the_askers_own(self):
        told = walks_of(BLOCK, ROUND)
        told.append(FIRST)
        told[0] = ()
        self.assertEqual(looks(walks_of(BLOCK, ROUND)), looks([SHORE, HOLE]))
        walks_of(BLOCK, ROUND).clear()
        self.assertEqual(looks(walks_of(BLOCK, ROUND)), looks([SHORE, HOLE]))
        walks_of(BLOCK, ()).append(FIRST)
        self.assertEqual(walks_of(BLOCK, ()), [])


class WalksHold(unittest.TestCase):
    def test_the_list_itself(self):
        for land in ((), ((1, 1),), ROUND, NO_CORNER, ((0, 0), (1, 1), (2, 2)), tuple(plain_cells(BLOCK))):
            self.assertIs(answer_of(walks_hold, BLOCK, land, plain_walks(land)), True)
            self.assertIs(walks_hold(BLOCK, land, walks_of(BLOCK, land)), True)

    def test_the_list_of_another_land(self):
        lands = all_tuples(plain_cells(BLOCK))[::7]
        for land in lands:
            for other in lands:
                self.assertIs(walks_hold(BLOCK, land, plain_walks(other)), land == other)

    def test_what_differs_a_little(self):
        for land in ((), ((0, 0),), ((1, 1),), ((0, 0), (1, 1)), ((0, 0), (0, 1), (2, 2)), ROUND, NO_CORNER):
            walks = plain_walks(land)
            seen = 0
            for thing in otherwise(walks):
                same = looks(thing) == looks(walks)
                seen += not same
                self.assertIs(answer_of(walks_hold, BLOCK, land, thing), same, looks(thing))
            self.assertGreater(seen, 5)

    def test_truths_in_a_numbers_place(self):
        self.assertIs(walks_hold(ONE, ((0, 0),), [((False, 0), (0, 1), (1, 1), (1, 0))]), False)
        self.assertIs(walks_hold(ONE, ((0, 0),), [((0, 0), (0, True), (1, 1), (1, 0))]), False)
        self.assertIs(walks_hold(ONE, ((0, 0),), [((0, 0), (0, 1), (True, True), (1, 0))]), False)
        self.assertIs(walks_hold(ONE, ((0, 0),), [((0, 0), (0, 1), (1, 1), (1, 0))]), True)

    def test_things_of_any_kind(self):
        for thing in THINGS:
            self.assertIs(answer_of(walks_hold, BLOCK, (), thing), looks(thing) == "[]", looks(thing))
            for asked in (thing, [thing], [(thing,)], [FIRST, thing], [FIRST[:3] + (thing,)], (FIRST, thing),
                          [FIRST[:3] + ((1, thing if looks(thing) != "0" else None),)]):
                self.assertIs(answer_of(walks_hold, BLOCK, ((0, 0),), asked), False, looks(asked))


class StepsRound(unittest.TestCase):
    def test_steps(self):
        for land, steps in (((), 0), (((1, 1),), 4), (((0, 0), (0, 1)), 6), (((0, 0), (1, 1)), 8), (ROUND, 16),
                            (NO_CORNER, 16), (tuple(plain_cells(BLOCK)), 12)):
            self.assertEqual(looks(steps_round(BLOCK, land)), looks(steps))

    def test_all_lands(self):
        for mead in (BLOCK, MEAD, LONG):
            for land in all_tuples(plain_cells(mead)):
                sides = [(cell, side) for cell in land for side in range(4) if beyond(cell, side) not in land]
                self.assertEqual(answer_of(steps_round, mead, land), len(sides))


class LandInAndTwiceArea(unittest.TestCase):
    def test_of_lists_told(self):
        self.assertEqual(looks(land_in(BLOCK, [SHORE, HOLE])), looks(ROUND))
        self.assertEqual(looks(twice_area(BLOCK, [SHORE, HOLE])), "16")
        self.assertEqual(looks(land_in(BLOCK, [SHORE])), looks(tuple(plain_cells(BLOCK))))
        self.assertEqual(twice_area(BLOCK, [SHORE]), 18)
        self.assertEqual(looks(land_in(BLOCK, [])), "()")
        self.assertEqual(looks(twice_area(BLOCK, [])), "0")
        self.assertEqual(looks(land_in(ONE, [FIRST])), "((0, 0),)")
        self.assertEqual(looks(twice_area(ONE, [FIRST])), "2")

    def test_of_all_lands(self):
        ahead = time.process_time()
        for mead in (BLOCK, MEAD, LONG, TALL, ONE):
            for land in all_tuples(plain_cells(mead)):
                walks = plain_walks(land)
                self.assertEqual(looks(answer_of(land_in, mead, walks)), looks(land))
                self.assertEqual(looks(answer_of(twice_area, mead, walks)), looks(2 * len(land)))
        for mead in (RING, TEN, CHESS):
            for land in all_tuples(plain_cells(mead))[::4]:
                self.assertEqual(land_in(mead, walks_of(mead, land)), land)
                self.assertEqual(twice_area(mead, walks_of(mead, land)), 2 * len(land))
        self.assertLess(time.process_time() - ahead, 60)

    def test_what_differs_a_little(self):
        lands = {looks(plain_walks(land)): land for land in all_tuples(plain_cells(BLOCK))}
        refused = told = 0
        for land in ((), ((0, 0),), ((1, 1),), ((0, 0), (1, 1)), ((0, 0), (0, 1), (2, 2)), ROUND, NO_CORNER):
            for thing in otherwise(plain_walks(land)):
                if looks(thing) in lands:
                    told += 1
                    self.assertEqual(answer_of(land_in, BLOCK, thing), lands[looks(thing)], looks(thing))
                    self.assertEqual(answer_of(twice_area, BLOCK, thing), 2 * len(lands[looks(thing)]), looks(thing))
                else:
                    refused += 1
                    self.assertIs(answer_of(land_in, BLOCK, thing), NoWalks, looks(thing))
                    self.assertIs(answer_of(twice_area, BLOCK, thing), NoWalks, looks(thing))
        self.assertGreater(refused, 500)
        self.assertGreater(told, 5)

    def test_the_list_of_no_land_of_the_mead(self):
        # A hole alone; a shore twice; walks round road, round water, and beyond the rim.
        for mead, walks in (
            (BLOCK, [HOLE]), (BLOCK, [FIRST, HOLE]), (BLOCK, [SHORE, SHORE]), (RING, [MIDDLE]), (RING, [SHORE]),
            (LONG, [((0, 2), (0, 3), (1, 3), (1, 2))]), (LONG, [((0, 5), (0, 6), (1, 6), (1, 5))]),
            (ONE, [((0, 0), (0, 1), (0, 2), (1, 2), (1, 1), (1, 0))]), (ONE, [((0, 1), (0, 2), (1, 2), (1, 1))]),
            (ONE, [((-1, 0), (-1, 1), (0, 1), (0, 0))]), (ONE, [((1, 0), (1, 1), (2, 1), (2, 0))]),
            (ONE, [((0, 0), (0, LARGE), (LARGE, LARGE), (LARGE, 0))]), (ONE, [((0, 0),)]), (ONE, [()]),
            (ONE, [FIRST, ()]),
        ):
            self.assertIs(answer_of(land_in, mead, walks), NoWalks, walks)
            self.assertIs(answer_of(twice_area, mead, walks), NoWalks, walks)

    def test_the_walks_of_two_cells_taken_as_one(self):
        # At the stone between them the turn to the left would lead from one cell to the other.
        left = [((0, 0), (0, 1), (1, 1), (1, 2), (2, 2), (2, 1), (1, 1), (1, 0))]
        self.assertIs(answer_of(land_in, BLOCK, left), NoWalks)
        self.assertIs(walks_hold(BLOCK, ((0, 0), (1, 1)), left), False)


class Refusals(unittest.TestCase):
    bad_meads = (NoMead, NO_MEADS)
    bad_lands = (NoLand, NO_LANDS)
    bad_walks = (NoWalks, (
        (FIRST,), [list(FIRST)], [FIRST[1:]], [FIRST[1:] + FIRST[:1]], [FIRST, FIRST], {0: FIRST}, [HOLE],
    ) + tuple(thing for thing in THINGS if looks(thing) != "[]"))

    def test_each_of_what_is_handed_in(self):
        for ask in (walks_of, steps_round):
            self.assertEqual(faults_of_refusals(ask, (BLOCK, ((0, 0),)), (self.bad_meads, self.bad_lands)), [])
        bad = (self.bad_meads, self.bad_lands)
        self.assertEqual(faults_of_refusals(walks_hold, (BLOCK, ((0, 0),), [FIRST]), bad), [])
        for ask in (land_in, twice_area):
            self.assertEqual(faults_of_refusals(ask, (BLOCK, [FIRST]), (self.bad_meads, self.bad_walks)), [])

    def test_walks_hold_looks_at_mead_and_land_whatever_the_thing(self):
        for thing in THINGS:
            self.assertIs(answer_of(walks_hold, (BLOCK,), ((0, 0),), thing), NoMead)
            self.assertIs(answer_of(walks_hold, BLOCK, ((0, 9),), thing), NoLand)
            self.assertIs(answer_of(walks_hold, RING, ((1, 1),), thing), NoLand)

    def test_the_same_answer_again(self):
        def told():
            return looks([
                walks_of(BLOCK, NO_CORNER), walks_hold(BLOCK, ((0, 0),), [FIRST]), steps_round(BLOCK, ROUND),
                land_in(BLOCK, [FIRST]), twice_area(BLOCK, [FIRST]),
            ])

        ahead = told()
        self.assertIs(answer_of(land_in, BLOCK, [HOLE]), NoWalks)
        self.assertIs(answer_of(walks_of, BLOCK, ((3, 0),)), NoLand)
        land_in(RING, [SHORE, HOLE])
        self.assertEqual(told(), ahead)


if __name__ == "__main__":
    unittest.main()

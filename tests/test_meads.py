"""Meads [1.1], and what [0.2] to [0.5] ask of them."""

import unittest

from meadshares.errors import NoMead, NoPlace
from meadshares.meads import cells_of, is_mead, roads_of, whole_worth, worth_at
from tests.helpers import BLOCK, CHESS, LARGE, LONG, MEAD, MEADS, ONE, RING, TALL, THINGS, answer_of, looks

NO_MEADS = (
    (), ((),), ((), ()), ((1,), ()), ((), (1,)),
    ((1,), (1,), (1,), (1,), (1,)), ((1, 1, 1, 1, 1, 1, 1),), ((1, -2, -2, -2, -2, -2, -2),),
    ((1, 2), (3,)), ((1,), (2, 3)), ((1, 2), (3, 4), (5, 6, 7)),
    ((-1,),), ((-2,),), ((-1, -2), (-2, -1)), ((0,) * 6, (0,) * 5 + (-1,)), ((9,) * 6,) * 4,
    ((-3,),), ((100,),), ((1, -3),), ((1, 100),), ((LARGE,),), ((-LARGE,),), ((1, LARGE),),
    ((True,),), ((False,),), ((1, True),), ((1, False),), ((1, 2), (True, 3)),
    [(1,)], [[1]], ([1],), ((1,), [1]), ([1], (1,)), ((1, (1,)),), ((1, [1]),), ((1, "1"),), ((1, None),),
    "1", "12", ("1",), ("12", "34"), ({0: 1},), {0: (1,)}, 1, (1,), (1, 2),
)
NO_PLACES = ([0, 0], (0,), (0, 0, 0), ((0, 0),), [(0, 0)], (0, [0]), (0, "0"), (0, None), ((0,), 0), (0, (0,)), "00")


def filled(rows, columns, cells):
    """Rows of water, the first of them with that many cells among them."""
    numbers = [0] * cells + [-2] * (rows * columns - cells)
    return tuple(tuple(numbers[columns * at:columns * at + columns]) for at in range(rows))


class IsMead(unittest.TestCase):
    def test_meads(self):
        for mead in MEADS:
            self.assertIs(is_mead(mead), True)

    def test_rows_and_columns(self):
        for rows in range(0, 8):
            for columns in range(0, 10):
                asked = filled(rows, columns, min(1, rows * columns))
                self.assertIs(is_mead(asked), 1 <= rows <= 4 and 1 <= columns <= 6, asked)

    def test_how_many_cells(self):
        for cells in range(25):
            self.assertIs(is_mead(filled(4, 6, cells)), 1 <= cells <= 10, cells)
        for cells in range(13):
            self.assertIs(is_mead(filled(2, 6, cells)), 1 <= cells <= 10, cells)

    def test_each_number(self):
        for number in list(range(-20, 130)) + [LARGE, -LARGE]:
            self.assertIs(is_mead(((5, number),)), -2 <= number <= 99, number)
            self.assertIs(is_mead(((number,),)), 0 <= number <= 99, number)
            self.assertIs(is_mead(((-1, -1), (5, number))), -2 <= number <= 99, number)

    def test_what_is_none(self):
        for thing in NO_MEADS:
            self.assertIs(answer_of(is_mead, thing), False, looks(thing))

    def test_things_of_any_kind(self):
        for thing in THINGS:
            self.assertIs(answer_of(is_mead, thing), False, looks(thing))
            self.assertIs(answer_of(is_mead, (thing,)), False, looks(thing))
            self.assertIs(answer_of(is_mead, ((1, 2), thing)), False, looks(thing))
            self.assertIs(answer_of(is_mead, (thing, (1, 2))), False, looks(thing))
            self.assertIs(answer_of(is_mead, [thing]), False, looks(thing))

    def test_things_of_any_kind_for_a_number(self):
        for thing in THINGS:
            is_number = thing.__class__ is int and -2 <= thing <= 99
            self.assertIs(answer_of(is_mead, ((1, thing),)), is_number, looks(thing))
            self.assertIs(answer_of(is_mead, ((1, 0), (thing, 2))), is_number, looks(thing))


class Places(unittest.TestCase):
    def test_cells(self):
        self.assertEqual(cells_of(MEAD), [(0, 0), (0, 1), (0, 3), (1, 3), (2, 0), (2, 2), (2, 3)])
        self.assertEqual(cells_of(ONE), [(0, 0)])
        self.assertEqual(cells_of(LONG), [(0, 0), (0, 1), (0, 3), (0, 4)])
        self.assertEqual(cells_of(TALL), [(0, 0), (2, 0), (3, 0)])
        self.assertEqual(cells_of(BLOCK), [(0, 0), (0, 1), (0, 2), (1, 0), (1, 1), (1, 2), (2, 0), (2, 1), (2, 2)])
        self.assertEqual(len(cells_of(CHESS)), 10)

    def test_roads(self):
        self.assertEqual(roads_of(MEAD), [(1, 0), (1, 1), (1, 2)])
        self.assertEqual(roads_of(CHESS), [(0, 3), (2, 5), (3, 0)])
        self.assertEqual(roads_of(RING), [(1, 1), (1, 4)])
        self.assertEqual(roads_of(LONG), [(0, 2)])
        self.assertEqual(roads_of(TALL), [(1, 0)])

    def test_no_road(self):
        for mead in (ONE, BLOCK, ((0, -2),)):
            self.assertEqual(looks(roads_of(mead)), "[]")

    def test_lists_of_tuples_of_numbers(self):
        self.assertEqual(looks(cells_of(LONG)), "[(0, 0), (0, 1), (0, 3), (0, 4)]")
        self.assertEqual(looks(roads_of(MEAD)), "[(1, 0), (1, 1), (1, 2)]")

    def test_a_list_told_is_the_askers_own(self):
        for mead in MEADS:
            for ask in (cells_of, roads_of):
                ahead = looks(ask(mead))
                told = ask(mead)
                told.append("mine")
                told.reverse()
                self.assertEqual(looks(ask(mead)), ahead)
                told.clear()
                self.assertEqual(looks(answer_of(ask, mead)), ahead)


class Worths(unittest.TestCase):
    def test_the_worth_at_each_cell(self):
        self.assertEqual([worth_at(MEAD, place) for place in cells_of(MEAD)], [3, 0, 7, 99, 10, 4, 5])
        self.assertEqual([worth_at(CHESS, place) for place in cells_of(CHESS)], list(range(1, 11)))
        self.assertEqual([worth_at(TALL, place) for place in cells_of(TALL)], [5, 0, 7])
        self.assertEqual(looks(worth_at(ONE, (0, 0))), "0")

    def test_each_place_in_and_round_a_mead(self):
        for mead in MEADS:
            cells = cells_of(mead)
            for row in range(-5, 8):
                for column in range(-7, 10):
                    expected = mead[row][column] if (row, column) in cells else NoPlace
                    self.assertEqual(answer_of(worth_at, mead, (row, column)), expected, (mead, row, column))

    def test_far_places(self):
        for place in ((LARGE, 0), (0, LARGE), (-LARGE, 0), (0, -LARGE), (LARGE, LARGE)):
            self.assertIs(answer_of(worth_at, MEAD, place), NoPlace)

    def test_places_with_a_truth(self):
        for place in ((False, 0), (0, False), (True, 0), (0, True), (True, True), (False, False), (1, True), (True, 1)):
            self.assertIs(answer_of(worth_at, BLOCK, place), NoPlace, place)

    def test_no_places(self):
        for place in NO_PLACES + THINGS:
            for mead in (ONE, MEAD, BLOCK):
                self.assertIs(answer_of(worth_at, mead, place), NoPlace, looks(place))
        for thing in THINGS:
            # Of these, 0, 1, 5 and their like make places of cells.
            if thing.__class__ is not int:
                self.assertIs(answer_of(worth_at, BLOCK, (thing, 0)), NoPlace, looks(thing))
                self.assertIs(answer_of(worth_at, BLOCK, (0, thing)), NoPlace, looks(thing))

    def test_whole_worth(self):
        self.assertEqual(whole_worth(MEAD), 128)
        self.assertEqual(whole_worth(CHESS), 55)
        self.assertEqual(whole_worth(BLOCK), 45)
        self.assertEqual(whole_worth(RING), 8)
        self.assertEqual(looks(whole_worth(ONE)), "0")
        self.assertEqual(whole_worth(LONG), 106)
        self.assertEqual(whole_worth(((99,) * 5,) * 2), 990)
        self.assertEqual(whole_worth(((1, -1, -2, -1),)), 1)


class Refusals(unittest.TestCase):
    def test_no_mead(self):
        for thing in NO_MEADS + THINGS:
            for ask in (cells_of, roads_of, whole_worth):
                self.assertIs(answer_of(ask, thing), NoMead, looks(thing))

    def test_no_mead_ahead_of_no_place(self):
        for thing in NO_MEADS + THINGS:
            for place in ((0, 0), (0, 9), [0, 0], (True, 0), None, thing):
                self.assertIs(answer_of(worth_at, thing, place), NoMead, looks((thing, place)))

    def test_the_same_answer_again_behind_a_refusal(self):
        for mead in MEADS:
            ahead = looks([cells_of(mead), roads_of(mead), whole_worth(mead)])
            self.assertIs(answer_of(worth_at, mead, None), NoPlace)
            self.assertIs(answer_of(cells_of, [mead]), NoMead)
            self.assertEqual(looks([cells_of(mead), roads_of(mead), whole_worth(mead)]), ahead)


if __name__ == "__main__":
    unittest.main()

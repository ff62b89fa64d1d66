"""Meads: rows of cells, roads and water."""

from meadshares.errors import NoMead, NoPlace
from meadshares.kinds import is_number_within, is_pair_of_numbers, is_tuple_within

MOST_ROWS = 4
MOST_COLUMNS = 6
MOST_CELLS = 10
MOST_WORTH = 99
ROAD = -1
WATER = -2


def is_row(thing):
    """Whether the thing, of whatever kind, may be a row of a mead."""
    if not is_tuple_within(thing, 1, MOST_COLUMNS):
        return False
    return all([is_number_within(mark, WATER, MOST_WORTH) for mark in thing])


def is_mead(thing):
    """Whether the thing, of whatever kind, is a mead."""
    if not is_tuple_within(thing, 1, MOST_ROWS):
        return False
    if not all([is_row(row) for row in thing]):
        return False
    if not all([len(row) == len(thing[0]) for row in thing]):
        return False
    return 1 <= len(places_of_cells(thing)) <= MOST_CELLS


def check_mead(mead):
    """Refuse what is no mead."""
    if not is_mead(mead):
        raise NoMead("no mead")


def places_of_cells(mead):
    """The rising list of the places of cells, of rows that are not looked at first."""
    return [(at, k) for at, row in enumerate(mead) for k, mark in enumerate(row) if mark >= 0]


def cells_of(mead):
    """The rising list of the places of the mead's cells."""
    check_mead(mead)
    return places_of_cells(mead)


def roads_of(mead):
    """The rising list of the places of the mead's roads."""
    check_mead(mead)
    return [(at, k) for at, row in enumerate(mead) for k, mark in enumerate(row) if mark == ROAD]


def is_cell(mead, thing):
    """Whether the thing, of whatever kind, is the place of a cell of the mead."""
    # (True, 0) equals (1, 0), so the kinds are asked ahead of the places.
    return is_pair_of_numbers(thing) and thing in places_of_cells(mead)


def worth_at(mead, place):
    """The worth of the mead's cell at the place."""
    check_mead(mead)
    if not is_cell(mead, place):
        raise NoPlace("no place of a cell")
    row, column = place
    return mead[row][column]


def worth_together(mead, places):
    """The sum of the worths of the cells at the places, of what is not looked at first."""
    return sum([mead[row][column] for row, column in places])


def whole_worth(mead):
    """The sum of the worths of all cells of the mead."""
    return worth_together(mead, cells_of(mead))


def places_beside(place):
    """The four places next to the place, also those beyond the rim."""
    row, column = place
    return [(row - 1, column), (row, column - 1), (row, column + 1), (row + 1, column)]

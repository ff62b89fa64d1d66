"""Walks: the bounds of a land, from stone to stone."""

from meadshares.errors import NoWalks
from meadshares.kinds import is_pair_of_numbers
from meadshares.lands import check_land
from meadshares.meads import cells_of, check_mead


def sides_of(cell):
    """For each side of the cell the place beyond it and the step along it, the cell on its right hand."""
    row, column = cell
    return [
        ((row - 1, column), ((row, column), (row, column + 1))),
        ((row, column + 1), ((row, column + 1), (row + 1, column + 1))),
        ((row + 1, column), ((row + 1, column + 1), (row + 1, column))),
        ((row, column - 1), ((row + 1, column), (row, column))),
    ]


def steps_along(land):
    """The rising list of the steps along all open sides of the land."""
    return sorted([step for cell in land for beyond, step in sides_of(cell) if beyond not in land])


def step_behind(steps, step):
    """The step that comes behind the step."""
    (row, column), (to_row, to_column) = step
    # Who turns to the right goes on by columns as they came by rows, and by rows as they came by columns.
    right = (to_row + to_column - column, to_column + row - to_row)
    if (step[1], right) in steps:
        return (step[1], right)
    return [other for other in steps if other[0] == step[1]][0]


def steps_from(steps, first):
    """The steps from the first one on, till it would come again."""
    walked = [first]
    step = step_behind(steps, first)
    while step != first:
        walked.append(step)
        step = step_behind(steps, step)
    return walked


def walks_along(land):
    """The rising list of the walks of the land, which is not looked at first."""
    # The steps rise, so each walk is found at its least step, and the walks rise as those do.
    steps = steps_along(land)
    walks = []
    walked = []
    for step in steps:
        if step not in walked:
            behind = steps_from(steps, step)
            walked.extend(behind)
            walks.append(tuple([start for start, end in behind]))
    return walks


def walks_of(mead, land):
    """The rising list of the walks of the land."""
    check_land(mead, land)
    return walks_along(land)


def steps_round(mead, land):
    """How many steps the walks of the land have together."""
    return sum([len(walk) for walk in walks_of(mead, land)])


def is_walk(thing):
    """Whether the thing, of whatever kind, is a tuple of tuples of two numbers."""
    return isinstance(thing, tuple) and all([is_pair_of_numbers(stone) for stone in thing])


def are_walks(thing):
    """Whether the thing, of whatever kind, is a list of what is made as walks are."""
    return isinstance(thing, list) and all([is_walk(walk) for walk in thing])


def walks_hold(mead, land, thing):
    """Whether the thing, of whatever kind, is the list of the walks of the land."""
    check_land(mead, land)
    # Truths equal numbers: so it is asked for the kinds ahead of the very walks.
    return are_walks(thing) and thing == walks_along(land)


def steps_in(walks):
    """The list of the steps of all the walks."""
    return [step for walk in walks for step in zip(walk, walk[1:] + walk[:1])]


def is_within(cell, steps):
    """Whether the cell lies within the walks that have the steps."""
    row, column = cell
    # Who goes along the row from the left up to the cell comes in and out by turns, at each step that is crossed.
    crossed = [c for (r, c), (s, d) in steps if r != s and min(r, s) == row and c <= column]
    return len(crossed) % 2 == 1


def cells_within(mead, walks):
    """The land of the cells within the walks, of what is not looked at first."""
    steps = steps_in(walks)
    return tuple([cell for cell in cells_of(mead) if is_within(cell, steps)])


def check_walks(mead, walks):
    """Refuse what is no mead, then what is no list of the walks of some land of it."""
    check_mead(mead)
    if not are_walks(walks) or walks != walks_along(cells_within(mead, walks)):
        raise NoWalks("no walks of a land of the mead")


def land_in(mead, walks):
    """The land whose walks these are."""
    check_walks(mead, walks)
    return cells_within(mead, walks)


def twice_area(mead, walks):
    """Twice the number of cells within the walks, added up step by step."""
    check_walks(mead, walks)
    return abs(sum([r * d - s * c for (r, c), (s, d) in steps_in(walks)]))

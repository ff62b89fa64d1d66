"""Lands: cells of a mead, and how they lie."""

from meadshares.errors import NoLand
from meadshares.kinds import is_rising
from meadshares.meads import check_mead, is_cell, places_beside, roads_of


def is_land(mead, thing):
    """Whether the thing, of whatever kind, is a land of the mead."""
    check_mead(mead)
    if not isinstance(thing, tuple) or not all([is_cell(mead, place) for place in thing]):
        return False
    return is_rising(thing)


def check_land(mead, land):
    """Refuse what is no mead, then what is no land of it."""
    if not is_land(mead, land):
        raise NoLand("no land of the mead")


def piece_round(land, start):
    """The land of all cells that are come to from start within the land."""
    reached = [start]
    at = 0
    while at < len(reached):
        beside = places_beside(reached[at])
        reached.extend([place for place in beside if place in land and place not in reached])
        at += 1
    return tuple(sorted(reached))


def pieces_of(mead, land):
    """The rising list of the pieces of which the land is made."""
    check_land(mead, land)
    # A piece is found at its least cell, and the land is rising: so are the pieces.
    pieces = []
    for cell in land:
        if not any([cell in piece for piece in pieces]):
            pieces.append(piece_round(land, cell))
    return pieces


def hangs_together(mead, land):
    """Whether the land is one piece."""
    return len(pieces_of(mead, land)) == 1


def at_road(mead, land):
    """Whether some cell of the land is next to a road."""
    check_land(mead, land)
    roads = roads_of(mead)
    return any([place in roads for cell in land for place in places_beside(cell)])


def worth_of(mead, land):
    """The sum of the worths of the land's cells."""
    check_land(mead, land)
    return sum([mead[row][column] for row, column in land])

"""Lands: cells of a mead, and how they lie."""

from meadshares.errors import NoLand
from meadshares.kinds import is_rising
from meadshares.meads import cells_of, check_mead, is_cell, places_beside, roads_of, worth_together


def is_land(mead, thing):
    """Whether the thing, of whatever kind, is a land of the mead."""
    check_mead(mead)
    if not isinstance(thing, tuple) or not all([is_cell(mead, place) for place in thing]):
        return False
    return is_rising(thing)


def check_land(mead, land):
    """Refuse what is no mead, then what is no land of it."""
    if not is_land(mead, land):
        raise NoLand("no land of the mead")


def piece_round(land, start):
    """The land of all cells that are come to from start within the land."""
    reached = [start]
    at = 0
    while at < len(reached):
        beside = places_beside(reached[at])
        reached.extend([place for place in beside if place in land and place not in reached])
        at += 1
    return tuple(sorted(reached))


def pieces_of(mead, land):
    """The rising list of the pieces of which the land is made."""
    check_land(mead, land)
    # A piece is found at its least cell, and the land is rising: so are the pieces.
    pieces = []
    for cell in land:
        if not any([cell in piece for piece in pieces]):
            pieces.append(piece_round(land, cell))
    return pieces


def is_one_piece(land):
    """Whether the land, which is not looked at first, hangs together."""
    return land != () and piece_round(land, land[0]) == land


def hangs_together(mead, land):
    """Whether the land is one piece."""
    check_land(mead, land)
    return is_one_piece(land)


def cells_at_road(mead):
    """The rising list of the mead's cells that are next to a road."""
    roads = roads_of(mead)
    return [cell for cell in cells_of(mead) if any([place in roads for place in places_beside(cell)])]


def has_some_of(land, cells):
    """Whether some cell of the land is one of the cells."""
    return any([cell in cells for cell in land])


def at_road(mead, land):
    """Whether some cell of the land is next to a road."""
    check_land(mead, land)
    return has_some_of(land, cells_at_road(mead))


def worth_of(mead, land):
    """The sum of the worths of the land's cells."""
    check_land(mead, land)
    return worth_together(mead, land)

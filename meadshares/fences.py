"""Fences: the bounds in a dealt mead, and partings in which the fewest of them move."""

from meadshares.claims import MOST_HOLDERS
from meadshares.errors import NoDealt
from meadshares.kinds import is_number_within, is_tuple_within
from meadshares.meads import cells_of, is_mead, places_beside
from meadshares.partings import ways_to_part
from meadshares.pleas import check_plea, fits_of_all


def is_dealt(thing):
    """Whether the thing, of whatever kind, is a dealt mead."""
    if not is_tuple_within(thing, 2, 2):
        return False
    mead, numbers = thing
    if not is_mead(mead):
        return False
    many = len(cells_of(mead))
    if not is_tuple_within(numbers, many, many):
        return False
    return all([is_number_within(number, 0, MOST_HOLDERS - 1) for number in numbers])


def check_dealt(dealt):
    """Refuse what is no dealt mead."""
    if not is_dealt(dealt):
        raise NoDealt("no dealt mead")


def check_dealt_of(mead, dealt):
    """Refuse what is no dealt mead, then one of another mead."""
    check_dealt(dealt)
    if dealt[0] != mead:
        raise NoDealt("a dealt mead of another mead")


def seams_of(mead):
    """The rising list of all tuples of two cells next to one another, the lesser one first."""
    cells = cells_of(mead)
    return [(cell, place) for cell in cells for place in places_beside(cell) if place > cell and place in cells]


def fences_of(dealt):
    """The rising list of the fences of the dealt mead."""
    check_dealt(dealt)
    mead, numbers = dealt
    number_at = {cell: number for cell, number in zip(cells_of(mead), numbers)}
    return [(one, other) for one, other in seams_of(mead) if number_at[one] != number_at[other]]


def fences_moved(one, other):
    """How many fences are in just one of the two dealt meads."""
    check_dealt(one)
    check_dealt_of(one[0], other)
    return len(set(fences_of(one)) ^ set(fences_of(other)))


def twice_moved(land, seams, fences):
    """Twice how many fences move where the cells of the land become one's, those at its rim counted by half."""
    within = [seam for seam in seams if seam[0] in land and seam[1] in land]
    at_rim = [seam for seam in seams if (seam[0] in land) != (seam[1] in land)]
    taken_away = [seam for seam in within if seam in fences]
    put_up = [seam for seam in at_rim if seam not in fences]
    return 2 * len(taken_away) + len(put_up)


def fewest_moved(plea, dealt):
    """The first of all tuples of how many fences move and of the parting, None where there is none."""
    check_plea(plea)
    mead, custom, claims, odd = plea
    check_dealt_of(mead, dealt)
    fits = fits_of_all(plea)
    seams = seams_of(mead)
    fences = fences_of(dealt)
    costs = {land: twice_moved(land, seams, fences) for holder in fits for land in fits[holder]}
    many, first = ways_to_part(cells_of(mead), fits, costs)
    if first is None:
        return None
    # A fence at the rim of one land stands at that of another one, too: so all are counted twice.
    twice, parting = first
    return (twice // 2, parting)

"""Houses: how far each holder has to go to their land, and partings in which nobody has far."""

from meadshares.claims import MOST_HOLDERS, check_holder, holders_of
from meadshares.errors import NoHouses, NoNumber
from meadshares.kinds import is_number_within, is_tuple_within
from meadshares.lands import has_some_of
from meadshares.meads import cells_of
from meadshares.partings import check_parting, first_way, land_within
from meadshares.pleas import check_plea, fits_of_all

FARTHEST_OUT = 99
MOST_ASKED = 999


def is_house(thing):
    """Whether the thing, of whatever kind, is a place where a holder may live."""
    if not is_tuple_within(thing, 2, 2):
        return False
    return all([is_number_within(number, -FARTHEST_OUT, FARTHEST_OUT) for number in thing])


def are_houses(thing):
    """Whether the thing, of whatever kind, are houses."""
    return is_tuple_within(thing, MOST_HOLDERS, MOST_HOLDERS) and all([is_house(house) for house in thing])


def check_houses(houses):
    """Refuse what are no houses."""
    if not are_houses(houses):
        raise NoHouses("no houses")


def check_plea_and_houses(plea, houses):
    """Refuse what is no plea, then what are no houses."""
    check_plea(plea)
    check_houses(houses)


def far_between(place, other):
    """How much the rows and the columns of two places differ together."""
    return abs(place[0] - other[0]) + abs(place[1] - other[1])


def far_with(mead, houses, numbers, holder):
    """How far the holder has to the land of all cells with their number, of what is not looked at first."""
    return min([far_between(houses[holder], cell) for cell in land_within(mead, numbers, holder)])


def check_parted(plea, houses, parting):
    """Refuse what is no plea, then what are no houses, then what is no parting of the plea."""
    check_plea_and_houses(plea, houses)
    check_parting(plea, parting)


def far_of(plea, houses, parting, holder):
    """How far the holder has to their land in the parting."""
    check_parted(plea, houses, parting)
    mead, custom, claims, odd = plea
    check_holder(claims, holder)
    return far_with(mead, houses, parting, holder)


def farthest_of(plea, houses, parting):
    """The farthest that some holder has to their land in the parting."""
    check_parted(plea, houses, parting)
    mead, custom, claims, odd = plea
    return max([far_with(mead, houses, parting, holder) for holder in holders_of(claims)])


def fits_within(cells, fits, houses, number):
    """Of the lands that fit each holder those to which they have no farther than the number."""
    near = {holder: [cell for cell in cells if far_between(houses[holder], cell) <= number] for holder in fits}
    return {holder: [land for land in fits[holder] if has_some_of(land, near[holder])] for holder in fits}


def nearest_parting(plea, houses):
    """The first of all tuples of how far the farthest has to go and of the parting, None where there is none."""
    check_plea_and_houses(plea, houses)
    fits = fits_of_all(plea)
    cells = cells_of(plea[0])
    # Whoever has farthest to go goes to a cell: so no other number needs to be tried.
    for many in sorted({far_between(houses[holder], cell) for holder in fits for cell in cells}):
        parting = first_way(cells, fits_within(cells, fits, houses, many))
        if parting is not None:
            return (many, parting)
    return None


def parted_within(plea, houses, number):
    """The first parting in which nobody has farther to go than the number, None where there is none."""
    check_plea_and_houses(plea, houses)
    if not is_number_within(number, 0, MOST_ASKED):
        raise NoNumber("no number from 0 to 999")
    fits = fits_of_all(plea)
    cells = cells_of(plea[0])
    return first_way(cells, fits_within(cells, fits, houses, number))

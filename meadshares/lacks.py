"""Lacks: lots of holders who can't all have a land that fits."""

from meadshares.claims import count_together, holders_of, is_holder
from meadshares.kinds import is_rising, is_tuple_within, rising_tuples
from meadshares.lands import is_land
from meadshares.meads import cells_of, whole_worth, worth_together
from meadshares.pleas import check_plea, fits_of_all


def cells_by_holder(plea):
    """For each holder the cells that are in some land that fits them."""
    fits = fits_of_all(plea)
    cells = cells_of(plea[0])
    return {holder: [cell for cell in cells if any([cell in land for land in fits[holder]])] for holder in fits}


def cells_for(mead, reach, holders):
    """The rising tuple of the cells that some of the holders reach."""
    return tuple([cell for cell in cells_of(mead) if any([cell in reach[holder] for holder in holders])])


def is_too_little(plea, holders, cells):
    """Whether the cells are fewer than the holders, or worth less than all that these must have."""
    mead, custom, claims, odd = plea
    if len(cells) < len(holders):
        return True
    # Dues are taken so many times as all rights count, so that all numbers are whole.
    whole_count = count_together(custom, claims)
    count = count_together(custom, [claim for claim in claims if claim[0] in holders])
    must_have = whole_worth(mead) * count - odd * whole_count * len(holders)
    return worth_together(mead, cells) * whole_count < must_have


def is_lot(claims, thing):
    """Whether the thing, of whatever kind, is a rising tuple, not (), of holders of the claims."""
    if not isinstance(thing, tuple) or thing == () or not all([is_holder(claims, holder) for holder in thing]):
        return False
    return is_rising(thing)


def is_lack(plea, thing):
    """Whether the thing, of whatever kind, is a lack of the plea."""
    check_plea(plea)
    mead, custom, claims, odd = plea
    if not is_tuple_within(thing, 2, 2):
        return False
    holders, cells = thing
    # Truths equal numbers: so it is asked for a land ahead of the very cells.
    if not is_lot(claims, holders) or not is_land(mead, cells):
        return False
    if cells != cells_for(mead, cells_by_holder(plea), holders):
        return False
    return is_too_little(plea, holders, cells)


def first_lack(plea):
    """The first lack, None where there is none."""
    check_plea(plea)
    mead, custom, claims, odd = plea
    reach = cells_by_holder(plea)
    # No two lacks have the same holders: so the first holders make the first lack.
    for holders in rising_tuples(holders_of(claims))[1:]:
        cells = cells_for(mead, reach, holders)
        if is_too_little(plea, holders, cells):
            return (holders, cells)
    return None

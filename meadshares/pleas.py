"""Pleas: a mead, the claims on it, and the lands that fit each holder."""

from meadshares.claims import are_claims, check_holder, fraction, holders_of, is_custom, share_of, stand_under
from meadshares.errors import NoOdd, NoPlea
from meadshares.kinds import is_number_within, is_tuple_within, rising_tuples
from meadshares.lands import cells_at_road, check_land, has_some_of, is_one_piece
from meadshares.meads import cells_of, is_mead, whole_worth, worth_together

MOST_ODD = 999


def is_odd(thing):
    """Whether the thing, of whatever kind, is a number that may be an odd."""
    return is_number_within(thing, 0, MOST_ODD)


def check_odd(odd):
    """Refuse what is no odd."""
    if not is_odd(odd):
        raise NoOdd("no odd from 0 to 999")


def is_plea(thing):
    """Whether the thing, of whatever kind, is a plea."""
    if not is_tuple_within(thing, 4, 4):
        return False
    mead, custom, claims, odd = thing
    if not is_mead(mead) or not is_custom(custom) or not are_claims(claims):
        return False
    return stand_under(custom, claims) and is_odd(odd)


def check_plea(plea):
    """Refuse what is no plea."""
    if not is_plea(plea):
        raise NoPlea("no plea")


def check_plea_and_holder(plea, holder):
    """Refuse what is no plea, then what is no holder of its claims."""
    check_plea(plea)
    mead, custom, claims, odd = plea
    check_holder(claims, holder)


def due_of(plea, holder):
    """The whole worth times the holder's share."""
    check_plea_and_holder(plea, holder)
    mead, custom, claims, odd = plea
    top, bottom = share_of(custom, claims, holder)
    return fraction(whole_worth(mead) * top, bottom)


def is_sound(land, roadside):
    """Whether the land hangs together and has some cell of those at a road."""
    return has_some_of(land, roadside) and is_one_piece(land)


def sound_lands(mead):
    """The rising list of the mead's lands that hang together and lie at a road."""
    roadside = cells_at_road(mead)
    return [land for land in rising_tuples(cells_of(mead)) if is_sound(land, roadside)]


def worth_the_due(plea, holder, lands):
    """Those of the lands whose worth and the holder's due differ by odd at most."""
    mead, custom, claims, odd = plea
    top, bottom = due_of(plea, holder)
    # Both sides are taken bottom times, so that all numbers are whole.
    return [land for land in lands if abs(worth_together(mead, land) * bottom - top) <= odd * bottom]


def is_fit(plea, holder, land):
    """Whether the land fits the holder, of what is not looked at first."""
    return is_sound(land, cells_at_road(plea[0])) and worth_the_due(plea, holder, [land]) == [land]


def fits_holder(plea, holder, land):
    """Whether the land fits the holder."""
    check_plea_and_holder(plea, holder)
    check_land(plea[0], land)
    return is_fit(plea, holder, land)


def fit_lands(plea, holder):
    """The rising list of all lands that fit the holder."""
    check_plea_and_holder(plea, holder)
    return worth_the_due(plea, holder, sound_lands(plea[0]))


def fits_of_all(plea):
    """For each holder of the plea's claims the rising list of all lands that fit them."""
    check_plea(plea)
    mead, custom, claims, odd = plea
    lands = sound_lands(mead)
    return {holder: worth_the_due(plea, holder, lands) for holder in holders_of(claims)}

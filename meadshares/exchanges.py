"""Exchanges: who would have whose land, and partings in which nobody would have another's."""

from meadshares.claims import check_two_holders, holders_of
from meadshares.errors import NoWill
from meadshares.houses import check_parted, far_with
from meadshares.partings import is_parting


def turned_about(parting, one, other):
    """The parting's numbers, where each of the two holders has the other's cells."""
    turned = {one: other, other: one}
    return tuple([turned.get(number, number) for number in parting])


def would_exchange(plea, houses, parting, one, other):
    """Whether the two holders would exchange their lands."""
    check_parted(plea, houses, parting)
    mead, custom, claims, odd = plea
    check_two_holders(claims, one, other)
    then = turned_about(parting, one, other)
    less_far = [far_with(mead, houses, then, who) < far_with(mead, houses, parting, who) for who in (one, other)]
    return all(less_far) and is_parting(plea, then)


def exchanged(plea, houses, parting, one, other):
    """The parting in which the two holders have exchanged their lands."""
    if not would_exchange(plea, houses, parting, one, other):
        raise NoWill("the two wouldn't exchange")
    return turned_about(parting, one, other)


def who_would(plea, houses, parting):
    """The rising list of all tuples of two holders who would exchange, the lesser one first."""
    check_parted(plea, houses, parting)
    mead, custom, claims, odd = plea
    pairs = [(one, other) for one in holders_of(claims) for other in holders_of(claims) if one < other]
    return [(one, other) for one, other in pairs if would_exchange(plea, houses, parting, one, other)]


def settled(plea, houses, parting):
    """The parting in which nobody would exchange any more, the first who would having exchanged again and again."""
    pairs = who_would(plea, houses, parting)
    while pairs != []:
        one, other = pairs[0]
        parting = exchanged(plea, houses, parting, one, other)
        pairs = who_would(plea, houses, parting)
    return parting

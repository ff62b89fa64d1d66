"""Rights and shares: customs, claims, and what holders have by them."""

from meadshares.errors import Missing, NoClaim, NoClaims, NoCustom, NoHolder, There, TooMany
from meadshares.kinds import is_number, is_number_within, is_rising, is_tuple_within

MOST_SORTS = 6
MOST_COUNTED = 100
MOST_HOLDERS = 4
MOST_RIGHTS = 20
MOST_CLAIMS = 12


def is_custom(thing):
    """Whether the thing, of whatever kind, is a custom."""
    if not is_tuple_within(thing, 1, MOST_SORTS):
        return False
    return all([is_number_within(counted, 1, MOST_COUNTED) for counted in thing])


def is_claim(thing):
    """Whether the thing, of whatever kind, is a claim."""
    if not is_tuple_within(thing, 3, 3):
        return False
    holder, sort, many = thing
    if not is_number_within(holder, 0, MOST_HOLDERS - 1) or not is_number_within(sort, 0, MOST_SORTS - 1):
        return False
    return is_number_within(many, 1, MOST_RIGHTS)


def are_claims(thing):
    """Whether the thing, of whatever kind, are claims."""
    if not is_tuple_within(thing, 1, MOST_CLAIMS) or not all([is_claim(claim) for claim in thing]):
        return False
    # Two of one holder and one sort would stand side by side: so holder and sort rise by themselves.
    return is_rising([(holder, sort) for holder, sort, many in thing])


def check_custom(custom):
    """Refuse what is no custom."""
    if not is_custom(custom):
        raise NoCustom("no custom")


def check_claim(claim):
    """Refuse what is no claim."""
    if not is_claim(claim):
        raise NoClaim("no claim")


def check_claims(claims):
    """Refuse what are no claims."""
    if not are_claims(claims):
        raise NoClaims("no claims")


def stand_under(custom, claims):
    """Whether each claim's sort is a place of the custom."""
    return all([sort < len(custom) for holder, sort, many in claims])


def check_claims_under(custom, claims):
    """Refuse what is no custom, then what are no claims that stand under it."""
    check_custom(custom)
    check_claims(claims)
    if not stand_under(custom, claims):
        raise NoClaims("claims of a sort that the custom hasn't")


def is_holder(claims, thing):
    """Whether the thing, of whatever kind, is a holder that has one of the claims."""
    return is_number(thing) and any([holder == thing for holder, sort, many in claims])


def check_holder(claims, holder):
    """Refuse what is no holder of the claims."""
    if not is_holder(claims, holder):
        raise NoHolder("no holder of the claims")


def check_two_holders(claims, one, other):
    """Refuse what is no holder of the claims, then one holder who is named twice."""
    check_holder(claims, one)
    check_holder(claims, other)
    if one == other:
        raise NoHolder("the two holders are one")


def holders_of(claims):
    """The rising list of the holders that have a claim."""
    check_claims(claims)
    return [holder for holder in range(MOST_HOLDERS) if is_holder(claims, holder)]


def count_together(custom, claims):
    """What the rights of all the claims count."""
    return sum([custom[sort] * many for holder, sort, many in claims])


def count_of(custom, claims, holder):
    """What the rights of the holder count together."""
    check_claims_under(custom, claims)
    check_holder(claims, holder)
    return count_together(custom, [claim for claim in claims if claim[0] == holder])


def fraction(top, bottom):
    """The fraction that is as much as top, from 0 on, divided by bottom, from 1 on."""
    # Euclid's way to the greatest number that divides both.
    divisor, rest = top, bottom
    while rest > 0:
        divisor, rest = rest, divisor % rest
    return (top // divisor, bottom // divisor)


def share_of(custom, claims, holder):
    """What the holder's rights count, divided by what all rights count."""
    return fraction(count_of(custom, claims, holder), count_together(custom, claims))


def laid(claims, claim):
    """The claims with the claim."""
    check_claims(claims)
    check_claim(claim)
    if any([one[:2] == claim[:2] for one in claims]):
        raise There("a claim of this holder and sort is there")
    if len(claims) == MOST_CLAIMS:
        raise TooMany(len(claims) + 1, MOST_CLAIMS)
    return tuple(sorted(claims + (claim,)))


def denied(claims, claim):
    """The claims without the claim."""
    check_claims(claims)
    check_claim(claim)
    if claim not in claims:
        raise Missing("the claim isn't there")
    if len(claims) == 1:
        raise NoClaims("it is the only claim")
    return tuple([one for one in claims if one != claim])


def rights_of(claims, holders, sort):
    """How many rights of the sort the holders have together."""
    return sum([many for holder, other_sort, many in claims if holder in holders and other_sort == sort])


def joined(claims, one, other):
    """The claims in which all rights of the other holder are the one's."""
    check_claims(claims)
    check_two_holders(claims, one, other)
    sums = [(one, sort, rights_of(claims, (one, other), sort)) for sort in range(MOST_SORTS)]
    for holder, sort, many in sums:
        if many > MOST_RIGHTS:
            raise TooMany(many, MOST_RIGHTS)
    kept = [claim for claim in claims if claim[0] not in (one, other)]
    return tuple(sorted(kept + [claim for claim in sums if claim[2] > 0]))

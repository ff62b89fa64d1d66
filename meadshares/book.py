"""A book: a mead, the claims on it, its parting, and the deeds that can be undone."""

from meadshares.claims import MOST_HOLDERS, check_claim, check_custom, denied, joined, laid, stand_under
from meadshares.errors import Missing, NoClaims, NoHolder, NoParting, NoUndo
from meadshares.exchanges import exchanged
from meadshares.fences import fences_moved, fewest_moved
from meadshares.houses import check_houses, nearest_parting
from meadshares.kinds import is_number_within
from meadshares.lacks import first_lack
from meadshares.meads import cells_of, check_mead
from meadshares.partings import first_parting, land_within
from meadshares.pleas import check_odd


def as_dealt(mead, parting):
    """The dealt mead that has the parting's fences, of an unparted mead none."""
    if parting is None:
        # Where all is one holder's, there is no fence.
        return (mead, (0,) * len(cells_of(mead)))
    return (mead, parting)


class Book:
    """A book of a mead, at first with no claims and unparted."""

    def __init__(self, mead, custom, odd, houses):
        check_mead(mead)
        check_custom(custom)
        check_odd(odd)
        check_houses(houses)
        self.mead = mead
        self.custom = custom
        self.odd = odd
        self.houses = houses
        self.claims = ()
        self.parting = None
        # Claims and parting as they stood ahead of each deed that can be undone, the last one behind.
        self.past = []

    def lay(self, claim):
        """Lay the claim; how many fences moved."""
        check_claim(claim)
        if not stand_under(self.custom, (claim,)):
            raise NoClaims("a claim of a sort that the custom hasn't")
        if self.claims == ():
            return self.claim_anew((claim,))
        return self.claim_anew(laid(self.claims, claim))

    def deny(self, claim):
        """Deny the claim; how many fences moved."""
        check_claim(claim)
        if self.claims == ():
            raise Missing("there are no claims")
        if self.claims == (claim,):
            return self.claim_anew(())
        return self.claim_anew(denied(self.claims, claim))

    def merge(self, one, other):
        """Let all rights of the other holder be the one's; how many fences moved."""
        if self.claims == ():
            raise NoHolder("there are no claims")
        return self.claim_anew(joined(self.claims, one, other))

    def part(self):
        """Part the mead by the first parting; how many fences moved."""
        plea = self.plea_now()
        return self.part_by(None if plea is None else first_parting(plea))

    def near(self):
        """Part the mead by the nearest parting; how many fences moved."""
        plea = self.plea_now()
        nearest = None if plea is None else nearest_parting(plea, self.houses)
        return self.part_by(None if nearest is None else nearest[1])

    def swap(self, one, other):
        """Let the two holders exchange their lands; how many fences moved."""
        if self.parting is None:
            raise NoParting("the mead is unparted")
        return self.part_by(exchanged(self.plea_now(), self.houses, self.parting, one, other))

    def undo(self):
        """Undo the last deed that stands."""
        if self.past == []:
            raise NoUndo("no deed stands")
        claims, parting = self.past.pop()
        self.claims = claims
        self.parting = parting

    def twin(self):
        """Another book with what stands and with the deeds that can be undone."""
        book = Book(self.mead, self.custom, self.odd, self.houses)
        book.claims = self.claims
        book.parting = self.parting
        book.past = list(self.past)
        return book

    def claims_now(self):
        """The claims, () where there are none."""
        return self.claims

    def parting_now(self):
        """The parting, None where the mead is unparted."""
        return self.parting

    def plea_now(self):
        """The plea, None where there are no claims."""
        return self.plea_with(self.claims)

    def land_now(self, holder):
        """The land of the holder, () where they have none."""
        if not is_number_within(holder, 0, MOST_HOLDERS - 1):
            raise NoHolder("no number from 0 to 3")
        if self.parting is None:
            return ()
        return land_within(self.mead, self.parting, holder)

    def lack_now(self):
        """The first lack, None where there is none."""
        plea = self.plea_now()
        return None if plea is None else first_lack(plea)

    def plea_with(self, claims):
        """The plea with the claims, None where there are none."""
        return None if claims == () else (self.mead, self.custom, claims, self.odd)

    def claim_anew(self, claims):
        """Let the claims stand, and the mead, where it was parted, be parted anew; how many fences moved."""
        plea = self.plea_with(claims)
        if plea is None or self.parting is None:
            return self.let_stand(claims, None)
        fewest = fewest_moved(plea, (self.mead, self.parting))
        return self.let_stand(claims, None if fewest is None else fewest[1])

    def part_by(self, parting):
        """Let the parting stand, refused where it is none; how many fences moved."""
        if parting is None:
            raise NoParting("there is no parting")
        return self.let_stand(self.claims, parting)

    def let_stand(self, claims, parting):
        """Let claims and parting stand, as a deed that can be undone; how many fences moved."""
        moved = fences_moved(as_dealt(self.mead, self.parting), as_dealt(self.mead, parting))
        self.past.append((self.claims, self.parting))
        self.claims = claims
        self.parting = parting
        return moved

"""The refusals: each a class of its own, straight under MeadError."""


class MeadError(ValueError):
    """Any refusal."""


class NoMead(MeadError):
    """What was handed in for a mead is none."""


class NoPlace(MeadError):
    """What was handed in for the place of a cell is none."""


class NoLand(MeadError):
    """What was handed in for a land is none."""


class NoCustom(MeadError):
    """What was handed in for a custom is none."""


class NoClaim(MeadError):
    """What was handed in for a claim is none."""


class NoClaims(MeadError):
    """What was handed in for claims is none, or they can't stand."""


class NoHolder(MeadError):
    """What was handed in for a holder is none."""


class There(MeadError):
    """A claim of that holder and sort is there already."""


class Missing(MeadError):
    """The claim isn't there."""


class NoPlea(MeadError):
    """What was handed in for a plea is none."""


class NoParting(MeadError):
    """What was handed in for a parting is none, or there is none."""


class NoHouses(MeadError):
    """What was handed in for houses is none."""


class NoNumber(MeadError):
    """What was handed in for a number is none within its bounds."""


class NoDealt(MeadError):
    """What was handed in for a dealt mead is none."""


class NoWalks(MeadError):
    """What was handed in for walks is none."""


class NoWill(MeadError):
    """The two holders wouldn't exchange."""


class NoOdd(MeadError):
    """What was handed in for an odd is none."""


class NoUndo(MeadError):
    """No deed stands that could be undone."""


class NoText(MeadError):
    """What was handed in for a text writes nothing of the kind."""


class NoLine(MeadError):
    """What was said to a desk is no line."""


class NoBook(MeadError):
    """The desk has no book yet."""


class TooMany(MeadError):
    """There would be many, where most is the most there may be."""

    def __init__(self, many, most):
        self.many = many
        self.most = most

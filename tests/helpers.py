"""What several tests need: things of any kind, meads, pleas, plain searches, and looks at what was handed in."""

from fractions import Fraction
from functools import cache
from itertools import combinations, product


def nested(deep, wrap):
    """A thing of that depth, each but the innermost made by wrap."""
    thing = 0
    for _ in range(deep - 1):
        thing = wrap(thing)
    return thing


SIGNS = "".join(chr(k) for k in range(32, 127) if chr(k) != "%") + "\t\n"
LARGE = 10 ** 40 - 1

# Things of any kind that are no mead, no row, no place, no custom, no claim, no claims, no plea, no parting, no lack
# and, but for (), no land.
THINGS = (
    None, True, False,
    LARGE, -LARGE, 10 ** 39, 0, 1, -1, -2, 5,
    "", "a", "0", "(0, 0)", "((1,),)", SIGNS, SIGNS * 10,
    (), (None,), (True,), ("",), ("a", "b"), (LARGE,), (LARGE, -LARGE), ((),), ((), ()), ({},), ([],), ((None, None),),
    ("0", "0"), ([0], [0]), ({}, {}), ({0: 0}, {0: 0}), tuple([None] * 100), tuple([()] * 100),
    [], [None], [0, 0], [(0, 0)], [[0, 0]], [[1]], [(1,)], [[]], [()], list(range(100)),
    {}, {0: 0}, {"a": [1, (2, None)]}, {(0, 0): (0, 0)}, {None: True}, {0: (1,), 1: (2,)},
    dict.fromkeys(range(100)),
    nested(8, lambda thing: (thing,)), nested(8, lambda thing: [thing]), nested(8, lambda thing: {"a": thing}),
    nested(8, lambda thing: (thing, thing)), nested(8, lambda thing: [thing, {0: thing}]),
)

OTHER_THAN_NUMBERS = tuple(thing for thing in THINGS if thing.__class__ is not int)

# A road in the middle row, water in two corners, cells on both sides of the road.
MEAD = (
    (3, 0, -2, 7),
    (-1, -1, -1, 99),
    (10, -2, 4, 5),
)
# All cells in one block, no road.
BLOCK = ((1, 2, 3), (4, 5, 6), (7, 8, 9))
# Ten cells like a chess board: they touch at corners alone.
CHESS = (
    (1, -2, 2, -1, 3, -2),
    (-2, 4, -2, 5, -2, -2),
    (6, -2, 7, -2, 8, -1),
    (-1, 9, -2, 10, -2, -2),
)
# A ring of cells round a road, and two cells apart from it.
RING = (
    (1, 1, 1, -2, 0, -2),
    (1, -1, 1, -2, -1, -2),
    (1, 1, 1, -2, 0, -2),
)
ONE = ((0,),)
LONG = ((5, 0, -1, 2, 99, -2),)
TALL = ((5,), (-1,), (0,), (7,))

MEADS = (MEAD, BLOCK, CHESS, RING, ONE, LONG, TALL)

# Two strips with a road between them, worth 40 together.
STRIPS = (
    (1, 2, 4, 8),
    (-1, -1, -1, -1),
    (16, 3, 0, 6),
)
# Ten cells in a block, each at a road.
TEN = (
    (-1, -1, -1, -1, -1, -1),
    (1, 1, 1, 1, 1, -2),
    (1, 1, 1, 1, 1, -2),
    (-1, -1, -1, -1, -1, -1),
)
# Ten cells among four: too many tuples to go through.
TEN_PLEAS = (
    (TEN, (1,), ((0, 0, 1), (1, 0, 1), (2, 0, 1), (3, 0, 1)), 1),
    (TEN, (1,), ((0, 0, 3), (1, 0, 3), (2, 0, 2), (3, 0, 2)), 0),
    (TEN, (1, 2), ((0, 0, 2), (1, 0, 2), (2, 1, 1), (3, 0, 4)), 1),
)
CUSTOM = (3, 5, 20)
CLAIMS = ((0, 0, 2), (0, 2, 1), (1, 1, 4), (3, 0, 20))
ALIKE = (((0, 0, 1),), ((0, 0, 1), (1, 0, 1)), ((0, 0, 1), (1, 0, 1), (2, 0, 1)),
         ((0, 0, 1), (1, 0, 1), (2, 0, 1), (3, 0, 1)))
PLEA = (STRIPS, CUSTOM, CLAIMS, 15)
# Two holders with two to four cells each, in one row along a road.
ROW = (((2, 2, 2, 2, 2, 2), (-1,) * 6), (1,), ((1, 0, 1), (3, 0, 1)), 2)
NO_PLEAS = (ROW[:3], list(ROW), ROW + (0,), ROW[:3] + (1000,), ROW[:3] + (True,), [ROW]) + THINGS

# Meads of few cells: all tuples of holders for them can be gone through.
SMALL = (
    ONE, LONG, TALL, ((4, -1),), ((4, -2),), ((0, -1, 0),), ((0, 0, -1),), ((2, 3, -1), (5, 7, -1)), ((9, -1, 1, 1),),
    ((1, 2, 3), (-1, -1, 4)), ((0, 0), (-1, 0), (0, 0)), ((1, 1, 1, 1), (-1, -2, -1, -2)), ((50, 1, 1), (-1, -1, -1)),
    ((10, -1, 10), (10, -1, 10), (1, 1, 1)), ((99, 99, -1, 1, 1),), ((1, 2), (3, -1), (4, 5)),
)
SMALL_PLEAS = tuple(
    (mead, CUSTOM, claims, odd)
    for mead in SMALL
    for claims in ALIKE + (CLAIMS, ((2, 1, 7),), ((1, 0, 1), (3, 2, 20)), ((0, 0, 5), (2, 1, 1), (3, 0, 3)))
    for odd in (0, 1, 2, 5, 30, 999)
)

# Some live in the mead, some beside it, some as far out as may be.
HOUSES = ((0, 0), (-1, 2), (99, -99), (2, 3))
HOUSES_OF_ALL = (
    HOUSES, ((0, 0),) * 4, ((-99, -99), (99, 99), (-99, 99), (99, -99)), ((0, 5), (3, 0), (0, 0), (1, 1)),
    ((0, 3), (0, 2), (0, 1), (0, 0)), ((-4, 1), (2, -7), (1, 1), (5, 9)),
)
NO_HOUSES = tuple(
    HOUSES[:at] + (house,) + HOUSES[at + 1:]
    for at in range(4)
    for house in ((100, 0), (0, 100), (-100, 0), (0, -100), (True, 0), (0, False), (0,), (0, 0, 0), (), [0, 0],
                  ("0", "0"), (0, None), (0, (0,)), 0, None, "00", (LARGE, 0), (0, -LARGE), {0: 0, 1: 0})
) + (HOUSES[:3], HOUSES + ((0, 0),), list(HOUSES), [list(house) for house in HOUSES], (HOUSES,), HOUSES[0], {})


def plain_due(plea, holder):
    """The holder's due, as Python's own fraction."""
    mead, custom, claims, _ = plea
    count = sum(custom[sort] * many for who, sort, many in claims if who == holder)
    whole = sum(number for row in mead for number in row if number >= 0)
    return Fraction(whole * count, sum(custom[sort] * many for _, sort, many in claims))


def plain_cells(mead):
    return [(r, c) for r, row in enumerate(mead) for c, number in enumerate(row) if number >= 0]


def plain_holders(claims):
    return sorted({claim[0] for claim in claims})


def are_next(one, other):
    return abs(one[0] - other[0]) + abs(one[1] - other[1]) == 1


def plain_fits(plea, holder, land):
    """Whether the land fits the holder, told by the words of the document."""
    mead, odd = plea[0], plea[3]
    roads = [(r, c) for r, row in enumerate(mead) for c, number in enumerate(row) if number == -1]
    if not any(are_next(cell, road) for cell in land for road in roads):
        return False
    if abs(sum(mead[r][c] for r, c in land) - plain_due(plea, holder)) > odd:
        return False
    reached = {land[0]}
    while True:
        wider = reached | {cell for cell in land if any(are_next(cell, other) for other in reached)}
        if wider == reached:
            return len(reached) == len(land)
        reached = wider


@cache
def plain_partings(plea):
    """The rising tuple of all partings, found tuple by tuple."""
    cells, holders = plain_cells(plea[0]), plain_holders(plea[2])
    fits = {holder: {land for land in all_tuples(cells) if plain_fits(plea, holder, land)} for holder in holders}
    return tuple(
        numbers for numbers in product(holders, repeat=len(cells))
        if all(plain_land(plea[0], numbers, holder) in fits[holder] for holder in holders)
    )


@cache
def partings_by_lands(plea):
    """The rising tuple of all partings, found land by land: for those that are too many to go tuple by tuple."""
    cells = plain_cells(plea[0])
    dealt = [{}]
    for holder in plain_holders(plea[2]):
        lands = [land for land in all_tuples(cells) if land and plain_fits(plea, holder, land)]
        dealt = [{**numbers, **dict.fromkeys(land, holder)} for numbers in dealt for land in lands
                 if not any(cell in numbers for cell in land)]
    return tuple(sorted(tuple(numbers[cell] for cell in cells) for numbers in dealt if len(numbers) == len(cells)))


def plain_land(mead, numbers, holder):
    """The land of the cells that the holder has."""
    return tuple(cell for cell, number in zip(plain_cells(mead), numbers) if number == holder)


def plain_far(house, land):
    return min(abs(house[0] - row) + abs(house[1] - column) for row, column in land)


def plain_farthest(plea, houses, parting):
    return max(plain_far(houses[holder], plain_land(plea[0], parting, holder)) for holder in plain_holders(plea[2]))


def plain_fences(mead, numbers):
    """The fences of the mead with these numbers, in whatever order."""
    dealt = list(zip(plain_cells(mead), numbers))
    return {(one, other) for one, mine in dealt for other, yours in dealt
            if one < other and are_next(one, other) and mine != yours}


def all_tuples(things):
    """All tuples of some of the things, in their order."""
    return [some for many in range(len(things) + 1) for some in combinations(things, many)]


def looks(thing):
    """How a thing looks, where True and 1 look unlike."""
    return repr(thing)


def answer_of(ask, *handed):
    """What is told, or the class of what is raised; what is handed in must stay as it was."""
    ahead = looks(handed)
    try:
        told = ask(*handed)
    except Exception as error:
        told = error.__class__
    if looks(handed) != ahead:
        raise AssertionError(f"{ask.__name__} changed what was handed in: {ahead} became {looks(handed)}")
    return told


def faults_of_refusals(ask, good, bad):
    """What is told, and otherwise than is due, where something that is handed in is none.

    For the first places bad has the class that is due and things that are none; good are things handed in well.
    """
    faults = []
    for at, (due, things) in enumerate(bad):
        for thing in things:
            for rest in rests_of(good[at + 1:], bad[at + 1:], thing):
                handed = good[:at] + (thing,) + rest
                told = answer_of(ask, *handed)
                if told is not due:
                    faults.append((looks(handed), told))
    return faults


def rests_of(good, bad, thing):
    """What may stand further to the right: all well, each by itself not, none well, the same thing again."""
    rests = [good, tuple(things[0] for _, things in bad) + good[len(bad):], (thing,) * len(good)]
    for at, (_, things) in enumerate(bad):
        rests += [good[:at] + (other,) + good[at + 1:] for other in things[:3]]
    return rests

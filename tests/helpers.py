"""What several tests need: things of any kind, meads, and looks at what was handed in."""

from itertools import combinations


def nested(deep, wrap):
    """A thing of that depth, each but the innermost made by wrap."""
    thing = 0
    for _ in range(deep - 1):
        thing = wrap(thing)
    return thing


SIGNS = "".join(chr(k) for k in range(32, 127) if chr(k) != "%") + "\t\n"
LARGE = 10 ** 40 - 1

# Things of any kind that are no mead, no row, no place and, but for (), no land.
THINGS = (
    None, True, False,
    LARGE, -LARGE, 10 ** 39, 0, 1, -1, -2, 5,
    "", "a", "0", "(0, 0)", "((1,),)", SIGNS, SIGNS * 10,
    (), (None,), (True,), ("",), ("a", "b"), (LARGE,), (LARGE, -LARGE), ((),), ((), ()), ({},), ([],), ((None, None),),
    ("0", "0"), ([0], [0]), ({}, {}), ({0: 0}, {0: 0}), tuple([None] * 100), tuple([()] * 100),
    [], [None], [0, 0], [(0, 0)], [[0, 0]], [[1]], [(1,)], [[]], [()], list(range(100)),
    {}, {0: 0}, {"a": [1, (2, None)]}, {(0, 0): (0, 0)}, {None: True}, {0: (1,), 1: (2,)},
    dict.fromkeys(range(100)),
    nested(8, lambda thing: (thing,)), nested(8, lambda thing: [thing]), nested(8, lambda thing: {"a": thing}),
    nested(8, lambda thing: (thing, thing)), nested(8, lambda thing: [thing, {0: thing}]),
)

# A road in the middle row, water in two corners, cells on both sides of the road.
MEAD = (
    (3, 0, -2, 7),
    (-1, -1, -1, 99),
    (10, -2, 4, 5),
)
# All cells in one block, no road.
BLOCK = ((1, 2, 3), (4, 5, 6), (7, 8, 9))
# Ten cells like a chess board: they touch at corners alone.
CHESS = (
    (1, -2, 2, -1, 3, -2),
    (-2, 4, -2, 5, -2, -2),
    (6, -2, 7, -2, 8, -1),
    (-1, 9, -2, 10, -2, -2),
)
# A ring of cells round a road, and two cells apart from it.
RING = (
    (1, 1, 1, -2, 0, -2),
    (1, -1, 1, -2, -1, -2),
    (1, 1, 1, -2, 0, -2),
)
ONE = ((0,),)
LONG = ((5, 0, -1, 2, 99, -2),)
TALL = ((5,), (-1,), (0,), (7,))

MEADS = (MEAD, BLOCK, CHESS, RING, ONE, LONG, TALL)


def all_tuples(things):
    """All tuples of some of the things, in their order."""
    return [some for many in range(len(things) + 1) for some in combinations(things, many)]


def looks(thing):
    """How a thing looks, where True and 1 look unlike."""
    return repr(thing)


def answer_of(ask, *handed):
    """What is told, or the class of what is raised; what is handed in must stay as it was."""
    ahead = looks(handed)
    try:
        told = ask(*handed)
    except Exception as error:
        told = error.__class__
    if looks(handed) != ahead:
        raise AssertionError(f"{ask.__name__} changed what was handed in: {ahead} became {looks(handed)}")
    return told

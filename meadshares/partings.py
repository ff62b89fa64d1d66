"""Partings: all cells of a mead, dealt so that each holder's land fits."""

from meadshares.claims import check_holder, holders_of, is_holder
from meadshares.errors import NoParting
from meadshares.kinds import is_tuple_within
from meadshares.meads import cells_of
from meadshares.pleas import check_plea, fits_of_all, is_fit

# A holder's number is one figure where it is written four to a figure.
FIGURES = 4


def land_within(mead, numbers, holder):
    """The land of the cells at which the holder's number stands."""
    return tuple([cell for cell, number in zip(cells_of(mead), numbers) if number == holder])


def is_parting(plea, thing):
    """Whether the thing, of whatever kind, is a parting of the plea."""
    check_plea(plea)
    mead, custom, claims, odd = plea
    many = len(cells_of(mead))
    if not is_tuple_within(thing, many, many) or not all([is_holder(claims, number) for number in thing]):
        return False
    return all([is_fit(plea, holder, land_within(mead, thing, holder)) for holder in holders_of(claims)])


def check_parting(plea, parting):
    """Refuse what is no plea, then what is no parting of it."""
    if not is_parting(plea, parting):
        raise NoParting("no parting of the plea")


def land_of(plea, parting, holder):
    """The holder's land in the parting."""
    check_parting(plea, parting)
    mead, custom, claims, odd = plea
    check_holder(claims, holder)
    return land_within(mead, parting, holder)


def marks_of(cells, land):
    """The number with one figure for each of the cells, 1 where it is in the land, 0 where it isn't."""
    marks = 0
    for cell in cells:
        marks = marks * FIGURES + (1 if cell in land else 0)
    return marks


def parting_written(cells, number):
    """The tuple of the number's figures, one for each of the cells."""
    figures = []
    while len(figures) < len(cells):
        number, figure = divmod(number, FIGURES)
        figures.append(figure)
    return tuple(figures[::-1])


def with_one_more(ways, holder, lands):
    """The ways to deal some cells, led on by one of the lands for the holder.

    Ways and what is told have, for the marks of the cells dealt, how many ways there are and the least of all tuples
    of what a way costs and of the number that writes who has which cell. Lands are tuples of marks and costs.
    """
    led_on = {}
    for dealt in ways:
        many, (cost, number) = ways[dealt]
        for marks, more in lands:
            # Marks are 0 or 1, so lands with no cell in common have no bit in common.
            if dealt & marks == 0:
                way = (cost + more, number + holder * marks)
                others, least = led_on.get(dealt + marks, (0, way))
                led_on[dealt + marks] = (others + many, min(least, way))
    return led_on


def ways_to_part(cells, fits, costs):
    """How many ways there are to part the cells so that each holder has one of their lands, and the first one.

    Fits has the lands of each holder, costs what a land costs, where it isn't 0. The first is the first of all tuples
    of what the lands cost together and of the parting, None where there is no way.
    """
    # Numbers of as many figures compare as their tuples do; the first way of some cells among some holders goes on
    # to be the first whatever the others have, so no other one needs to be kept.
    ways = {0: (1, (0, 0))}
    for holder in fits:
        ways = with_one_more(ways, holder, [(marks_of(cells, land), costs.get(land, 0)) for land in fits[holder]])
    whole = marks_of(cells, cells)
    if whole not in ways:
        return (0, None)
    many, (cost, number) = ways[whole]
    return (many, (cost, parting_written(cells, number)))


def first_way(cells, fits):
    """The first parting of the cells in which each holder has one of their lands in fits, None where there is none."""
    many, first = ways_to_part(cells, fits, {})
    if first is None:
        return None
    cost, parting = first
    return parting


def first_parting(plea):
    """The first parting, None where there is none."""
    fits = fits_of_all(plea)
    return first_way(cells_of(plea[0]), fits)


def many_partings(plea):
    """How many partings there are."""
    fits = fits_of_all(plea)
    many, first = ways_to_part(cells_of(plea[0]), fits, {})
    return many

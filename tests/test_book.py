"""A book [9.1] to [9.3], and what [0.2] to [0.5] ask of it."""

import random
import time
import unittest
from itertools import product

from meadshares.book import Book
from meadshares.errors import (
    Missing, NoClaim, NoClaims, NoCustom, NoHolder, NoHouses, NoMead, NoOdd, NoParting, NoUndo, NoWill, There, TooMany,
)
from meadshares.lacks import first_lack
from tests.helpers import (
    ALIKE, BLOCK, HOUSES, HOUSES_OF_ALL, LARGE, NO_HOUSES, OTHER_THAN_NUMBERS, ROW, TEN, THINGS, answer_of,
    faults_of_refusals, looks, partings_by_lands, plain_far, plain_farthest, plain_fences, plain_holders,
    plain_land,
)

# Six cells of one worth in a row along a road.
LANE = ROW[0]
# 1 lives at the right end of the lane, all others at the left one.
ENDS = ((0, 0), (0, 5), (0, 0), (0, 0))
NO_CLAIMS_OF_ONE = (
    (4, 0, 1), (-1, 0, 1), (0, 6, 1), (0, -1, 1), (0, 0, 0), (0, 0, 21), (0, 0), (0, 0, 1, 1), [0, 0, 1], ((0, 0, 1),),
    (True, 0, 1), (0, False, 1), (0, 0, True), ("0", 0, 1), (0, None, 1), (0, 0, (1,)), (LARGE, 0, 1), (0, 0, LARGE),
) + THINGS


def lane_book(odd=2, custom=(1, 1, 1), houses=ENDS):
    return Book(LANE, custom, odd, houses)


def book_with(*claims, odd=2, parted=False):
    """A book of the lane with the claims laid, parted or not."""
    book = lane_book(odd)
    for claim in claims:
        book.lay(claim)
    if parted:
        book.part()
    return book


def full_book():
    """A book with twelve claims."""
    book = Book(LANE, (1, 1, 1, 1), 999, ENDS)
    for holder, sort in product(range(4), range(3)):
        book.lay((holder, sort, 1))
    return book


def state_of(book):
    """What the book tells, all together."""
    return looks([
        book.claims_now(), book.parting_now(), book.plea_now(), [book.land_now(who) for who in range(4)],
        book.lack_now(),
    ])


def states_of(book):
    """What the book tells now, and behind each undoing."""
    twin = book.twin()
    states = [state_of(twin)]
    while answer_of(twin.undo) is None:
        states.append(state_of(twin))
    return states


class PlainBook:
    """A book told by the words of the document: all that ever stood, the last behind."""

    def __init__(self, mead, custom, odd, houses):
        self.mead, self.custom, self.odd, self.houses = mead, custom, odd, houses
        self.stood = [((), None)]

    def twin(self):
        other = PlainBook(self.mead, self.custom, self.odd, self.houses)
        other.stood = list(self.stood)
        return other

    def plea(self, claims):
        return (self.mead, self.custom, claims, self.odd)

    def partings(self, claims):
        return partings_by_lands(self.plea(claims)) if claims else ()

    def fences(self, parting):
        return set() if parting is None else plain_fences(self.mead, parting)

    def say(self, word, *handed):
        """What is told to a deed, or the class of its refusal."""
        if word == "undo":
            if len(self.stood) == 1:
                return NoUndo
            self.stood.pop()
            return None
        claims, parting = self.stood[-1]
        if word in ("part", "near", "swap"):
            then, now = claims, getattr(self, word)(claims, parting, *handed)
        else:
            then, now = getattr(self, word)(claims, *handed), None
            if then.__class__ is tuple and parting is not None:
                now = min([(len(self.fences(parting) ^ self.fences(other)), other) for other in self.partings(then)],
                          default=(0, None))[1]
        for told in (then, now):
            if told is not None and told.__class__ is not tuple:
                return told
        self.stood.append((then, now))
        return len(self.fences(parting) ^ self.fences(now))

    def lay(self, claims, claim):
        if claim[1] >= len(self.custom):
            return NoClaims
        if any(other[:2] == claim[:2] for other in claims):
            return There
        return TooMany if len(claims) == 12 else tuple(sorted(claims + (claim,)))

    def deny(self, claims, claim):
        return tuple(other for other in claims if other != claim) if claim in claims else Missing

    def merge(self, claims, one, other):
        if one == other or not {one, other} <= set(plain_holders(claims)):
            return NoHolder
        rights = {}
        for who, sort, many in claims:
            who = one if who == other else who
            rights[who, sort] = rights.get((who, sort), 0) + many
        return TooMany if max(rights.values()) > 20 else tuple(sorted((*head, many) for head, many in rights.items()))

    def part(self, claims, parting):
        return min(self.partings(claims), default=NoParting)

    def near(self, claims, parting):
        return min([(plain_farthest(self.plea(claims), self.houses, other), other) for other in self.partings(claims)],
                   default=(0, NoParting))[1]

    def swap(self, claims, parting, one, other):
        if parting is None:
            return NoParting
        if one == other or not {one, other} <= set(plain_holders(claims)):
            return NoHolder
        then = tuple({one: other, other: one}.get(number, number) for number in parting)
        less = [self.far(then, who) < self.far(parting, who) for who in (one, other)]
        return then if then in self.partings(claims) and all(less) else NoWill

    def far(self, parting, who):
        return plain_far(self.houses[who], plain_land(self.mead, parting, who))

    def state(self):
        claims, parting = self.stood[-1]
        plea = self.plea(claims) if claims else None
        lands = [() if parting is None else plain_land(self.mead, parting, who) for who in range(4)]
        return looks([claims, parting, plea, lands, first_lack(plea) if plea else None])


class NewBook(unittest.TestCase):
    def test_no_claims_and_unparted(self):
        book = lane_book()
        self.assertEqual(looks(book.claims_now()), "()")
        self.assertIs(book.parting_now(), None)
        self.assertIs(book.plea_now(), None)
        self.assertIs(book.lack_now(), None)
        self.assertEqual(looks([book.land_now(who) for who in range(4)]), "[(), (), (), ()]")
        self.assertIs(answer_of(book.undo), NoUndo)

    def test_each_of_its_parts(self):
        bad = (
            (NoMead, ((), ((1, 2), (3,)), ((100,),), ((True,),), [(1,)], ((-1,),)) + THINGS),
            (NoCustom, ((), (0,), (101,), (1,) * 7, [1], (True,), ("1",), (LARGE,)) + tuple(
                thing for thing in THINGS if thing != (1,))),
            (NoOdd, (-1, 1000, LARGE, -LARGE, True, False, "1", (1,), [1]) + OTHER_THAN_NUMBERS),
            (NoHouses, NO_HOUSES + THINGS),
        )
        self.assertEqual(faults_of_refusals(Book, (LANE, (1, 1), 2, HOUSES), bad), [])

    def test_the_borders_of_its_parts(self):
        for odd in (0, 999):
            for custom in ((1,), (100,) * 6):
                for houses in (((-99, -99),) * 4, ((99, 99),) * 4):
                    self.assertEqual(Book(((0,),), custom, odd, houses).claims_now(), ())


class Lay(unittest.TestCase):
    def test_the_first_is_just_laid(self):
        book = lane_book()
        self.assertEqual(looks(book.lay((2, 1, 3))), "0")
        self.assertEqual(looks(book.claims_now()), "((2, 1, 3),)")
        self.assertEqual(looks(book.plea_now()), looks((LANE, (1, 1, 1), ((2, 1, 3),), 2)))
        self.assertIs(book.parting_now(), None)

    def test_in_their_order(self):
        book = book_with((2, 1, 3), (0, 2, 20), (0, 0, 1), (3, 0, 2))
        self.assertEqual(book.claims_now(), ((0, 0, 1), (0, 2, 20), (2, 1, 3), (3, 0, 2)))

    def test_there(self):
        book = book_with((2, 1, 3), (0, 2, 20))
        for claim in ((2, 1, 3), (2, 1, 4), (0, 2, 1)):
            self.assertIs(answer_of(book.lay, claim), There)
        self.assertEqual(book.claims_now(), ((0, 2, 20), (2, 1, 3)))

    def test_a_sort_that_is_no_place_of_the_custom(self):
        book = lane_book(custom=(1, 1))
        for sort in range(6):
            self.assertEqual(answer_of(book.lay, (0, sort, 1)), 0 if sort < 2 else NoClaims)
            self.assertEqual(answer_of(book.lay, (0, sort, 1)), There if sort < 2 else NoClaims)

    def test_too_many(self):
        book = full_book()
        with self.assertRaises(TooMany) as raised:
            book.lay((0, 3, 1))
        self.assertEqual(looks((raised.exception.many, raised.exception.most)), "(13, 12)")
        # Ahead of it: what is no claim, what is no place of the custom, what is there.
        self.assertIs(answer_of(book.lay, (0, 3, 0)), NoClaim)
        self.assertIs(answer_of(book.lay, (0, 4, 1)), NoClaims)
        self.assertIs(answer_of(book.lay, (0, 2, 5)), There)
        self.assertEqual(len(book.claims_now()), 12)

    def test_a_parted_mead_is_parted_anew(self):
        book = book_with((0, 0, 1), (3, 0, 1), parted=True)
        self.assertEqual(book.parting_now(), (0, 0, 0, 0, 3, 3))
        # Each has 4 due, of 12, and 2 to 6 fit: one more fence, and 0 keeps as many cells as it can.
        self.assertEqual(looks(book.lay((1, 0, 1))), "1")
        self.assertEqual(book.parting_now(), (0, 0, 0, 1, 3, 3))

    def test_a_parted_mead_that_cannot_be_parted_anew(self):
        book = book_with((0, 0, 1), (3, 0, 1), odd=0, parted=True)
        self.assertEqual(book.parting_now(), (0, 0, 0, 3, 3, 3))
        self.assertEqual(book.lay((1, 0, 20)), 1)
        self.assertIs(book.parting_now(), None)
        # And it stays unparted.
        self.assertEqual(book.deny((1, 0, 20)), 0)
        self.assertIs(book.parting_now(), None)


class Deny(unittest.TestCase):
    def test_denied(self):
        book = book_with((0, 0, 1), (3, 0, 1), (3, 1, 5))
        self.assertEqual(looks(book.deny((3, 0, 1))), "0")
        self.assertEqual(book.claims_now(), ((0, 0, 1), (3, 1, 5)))

    def test_missing(self):
        self.assertIs(answer_of(lane_book().deny, (0, 0, 1)), Missing)
        book = book_with((0, 0, 1))
        for claim in ((0, 0, 2), (0, 1, 1), (1, 0, 1), (0, 5, 1)):
            self.assertIs(answer_of(book.deny, claim), Missing)
        self.assertEqual(book.claims_now(), ((0, 0, 1),))

    def test_the_last_one_may_go(self):
        book = book_with((0, 0, 1))
        self.assertEqual(looks(book.deny((0, 0, 1))), "0")
        self.assertEqual(looks(book.claims_now()), "()")
        self.assertIs(book.plea_now(), None)
        self.assertIs(answer_of(book.deny, (0, 0, 1)), Missing)

    def test_the_last_one_of_a_parted_mead(self):
        book = book_with((2, 0, 1), parted=True)
        self.assertEqual(book.parting_now(), (2,) * 6)
        self.assertEqual(book.deny((2, 0, 1)), 0)
        self.assertIs(book.parting_now(), None)
        book.lay((2, 0, 1))
        self.assertIs(book.parting_now(), None)

    def test_a_parted_mead_is_parted_anew(self):
        # Between 0, 1 and 3 stood two fences: one of them is kept, whoever goes.
        for claim, parting in (((1, 0, 1), (0, 0, 0, 3, 3, 3)), ((0, 0, 1), (1, 1, 1, 3, 3, 3))):
            book = book_with((0, 0, 1), (1, 0, 1), (3, 0, 1), parted=True)
            self.assertEqual(book.parting_now(), (0, 0, 0, 1, 1, 3))
            self.assertEqual(looks(book.deny(claim)), "1")
            self.assertEqual(looks(book.parting_now()), looks(parting))

    def test_fences_that_are_taken_away(self):
        book = book_with((0, 0, 1), (3, 0, 1), odd=0, parted=True)
        book.lay((3, 1, 1))
        self.assertEqual(book.parting_now(), (0, 0, 3, 3, 3, 3))
        self.assertEqual(looks(book.deny((0, 0, 1))), "1")
        self.assertEqual(book.parting_now(), (3,) * 6)
        self.assertEqual(looks(book.undo()), "None")
        self.assertEqual(book.parting_now(), (0, 0, 3, 3, 3, 3))


class Merge(unittest.TestCase):
    def test_joined(self):
        book = book_with((0, 0, 1), (1, 0, 2), (1, 1, 3), (2, 2, 4))
        self.assertEqual(looks(book.merge(0, 1)), "0")
        self.assertEqual(book.claims_now(), ((0, 0, 3), (0, 1, 3), (2, 2, 4)))
        self.assertEqual(book.merge(2, 0), 0)
        self.assertEqual(book.claims_now(), ((2, 0, 3), (2, 1, 3), (2, 2, 4)))

    def test_no_holder(self):
        for handed in ((0, 1), (0, 0), (None, None), ("0", [])):
            self.assertIs(answer_of(lane_book().merge, *handed), NoHolder)
        book = book_with((0, 0, 1), (1, 0, 2))
        for handed in ((0, 2), (2, 0), (0, 0), (1, 1), (0, True), (False, 1), (0, 4), (-1, 0), (2, 2)):
            self.assertIs(answer_of(book.merge, *handed), NoHolder, handed)

    def test_too_many(self):
        book = book_with((0, 0, 20), (0, 1, 19), (0, 2, 20), (1, 1, 2), (1, 2, 3))
        for handed in ((0, 1), (1, 0)):
            with self.assertRaises(TooMany) as raised:
                book.merge(*handed)
            self.assertEqual(looks((raised.exception.many, raised.exception.most)), "(21, 20)")

    def test_a_parted_mead_is_parted_anew(self):
        book = book_with((0, 0, 1), (1, 0, 1), (3, 0, 1), parted=True)
        # Now 3 has 8 due, 1 has 4: one fence of two can stay, and 1 may have the three cells ahead of it.
        self.assertEqual(looks(book.merge(3, 0)), "1")
        self.assertEqual(book.claims_now(), ((1, 0, 1), (3, 0, 2)))
        self.assertEqual(book.parting_now(), (1, 1, 1, 3, 3, 3))

    def test_all_becomes_one_holders(self):
        book = book_with((0, 0, 1), (1, 0, 1), parted=True)
        self.assertEqual(book.merge(1, 0), 1)
        self.assertEqual(book.parting_now(), (1,) * 6)


class PartAndNear(unittest.TestCase):
    def test_part(self):
        book = book_with((0, 0, 1), (1, 0, 1))
        self.assertEqual(looks(book.part()), "1")
        self.assertEqual(looks(book.parting_now()), "(0, 0, 0, 0, 1, 1)")
        self.assertEqual(looks(book.part()), "0")
        self.assertEqual(book.parting_now(), (0, 0, 0, 0, 1, 1))

    def test_near(self):
        book = Book(LANE, (1,), 2, ((0, 5), (0, 0), (0, 0), (0, 0)))
        book.lay((0, 0, 1))
        book.lay((1, 0, 1))
        self.assertEqual(looks(book.near()), "1")
        self.assertEqual(looks(book.parting_now()), "(1, 1, 0, 0, 0, 0)")
        self.assertEqual(book.part(), 2)
        self.assertEqual(book.parting_now(), (0, 0, 0, 0, 1, 1))
        self.assertEqual(book.near(), 2)
        self.assertEqual(book.parting_now(), (1, 1, 0, 0, 0, 0))
        self.assertEqual(book.near(), 0)

    def test_no_claims(self):
        book = lane_book()
        self.assertIs(answer_of(book.part), NoParting)
        self.assertIs(answer_of(book.near), NoParting)
        book.lay((0, 0, 1))
        book.deny((0, 0, 1))
        self.assertIs(answer_of(book.part), NoParting)
        self.assertIs(answer_of(book.near), NoParting)

    def test_no_parting(self):
        for book in (Book(BLOCK, (1,), 999, HOUSES), Book(LANE, (1, 1), 0, HOUSES)):
            book.lay((0, 0, 1))
            book.lay((3, 0, 10))
            ahead = states_of(book)
            self.assertIs(answer_of(book.part), NoParting)
            self.assertIs(answer_of(book.near), NoParting)
            self.assertEqual(states_of(book), ahead)

    def test_ten_cells_among_four_in_time(self):
        ahead = time.process_time()
        book = Book(TEN, (1, 2), 999, HOUSES)
        for holder in range(4):
            book.lay((holder, 0, 1))
        # Three lands of one cell each, in a row up to a corner, take six fences.
        self.assertEqual(book.part(), 6)
        self.assertEqual(book.parting_now(), (0, 0, 0, 0, 0, 0, 0, 1, 2, 3))
        self.assertEqual(book.lay((0, 1, 1)), 0)
        self.assertEqual(book.near(), len(plain_fences(TEN, book.parting_now())
                                          ^ plain_fences(TEN, (0, 0, 0, 0, 0, 0, 0, 1, 2, 3))))
        book.merge(1, 3)
        self.assertEqual(plain_holders(book.claims_now()), [0, 1, 2])
        self.assertLess(time.process_time() - ahead, 20)


class Swap(unittest.TestCase):
    def book(self):
        book = Book(LANE, (1,), 2, ((0, 5), (0, 0), (0, 0), (0, 2)))
        for claim in ((0, 0, 1), (1, 0, 1)):
            book.lay(claim)
        book.part()
        return book

    def test_they_exchange(self):
        for handed in ((0, 1), (1, 0)):
            book = self.book()
            self.assertEqual(book.parting_now(), (0, 0, 0, 0, 1, 1))
            self.assertEqual(looks(book.swap(*handed)), "0")
            self.assertEqual(looks(book.parting_now()), "(1, 1, 1, 1, 0, 0)")
            self.assertIs(answer_of(book.swap, *handed), NoWill)

    def test_no_holder_ahead_of_no_will(self):
        book = self.book()
        for handed in ((0, 0), (1, 1), (0, 2), (3, 1), (False, True), (0, "1"), (None, 0)):
            self.assertIs(answer_of(book.swap, *handed), NoHolder, handed)

    def test_an_unparted_mead_ahead_of_all(self):
        for book in (lane_book(), book_with((0, 0, 1), (1, 0, 1))):
            for handed in ((0, 1), (0, 0), (0, 2), (None, 1), ([], {}), (True, False)):
                self.assertIs(answer_of(book.swap, *handed), NoParting)

    def test_fences_stay_where_lands_are_exchanged(self):
        book = Book(((1, 1, 1), (-1, -1, -1), (1, 1, 1)), (1,), 2, ((2, 0), (0, 2), (0, 0), (0, 0)))
        for claim in ALIKE[1]:
            book.lay(claim)
        self.assertEqual(book.part(), 0)
        self.assertEqual(book.parting_now(), (0, 0, 0, 1, 1, 1))
        self.assertEqual(book.swap(1, 0), 0)
        self.assertEqual(book.parting_now(), (1, 1, 1, 0, 0, 0))


class UndoAndTwin(unittest.TestCase):
    def test_deed_by_deed_back_to_the_first(self):
        book = Book(LANE, (1, 1, 1), 2, ((0, 5), (0, 0), (0, 0), (0, 2)))
        states = [state_of(book)]
        for deed, handed in (
            (book.lay, ((0, 0, 1),)), (book.lay, ((1, 0, 1),)), (book.part, ()), (book.swap, (0, 1)), (book.near, ()),
            (book.lay, ((3, 1, 1),)), (book.part, ()), (book.part, ()), (book.merge, (3, 0)), (book.deny, ((1, 0, 1),)),
            (book.deny, ((3, 0, 1),)), (book.deny, ((3, 1, 1),)), (book.lay, ((2, 2, 2),)),
        ):
            deed(*handed)
            states.append(state_of(book))
        self.assertEqual(states_of(book), states[::-1])
        for state in states[-2::-1]:
            self.assertIs(book.undo(), None)
            self.assertEqual(state_of(book), state)
        self.assertIs(answer_of(book.undo), NoUndo)
        self.assertEqual(state_of(book), states[0])

    def test_deeds_behind_an_undoing(self):
        book = book_with((0, 0, 1), (1, 0, 1))
        book.undo()
        self.assertEqual(book.lay((3, 0, 5)), 0)
        self.assertEqual(book.claims_now(), ((0, 0, 1), (3, 0, 5)))
        book.undo()
        self.assertEqual(book.claims_now(), ((0, 0, 1),))
        book.undo()
        self.assertEqual(book.claims_now(), ())
        self.assertIs(answer_of(book.undo), NoUndo)

    def test_what_was_refused_is_not_undone(self):
        book = book_with((0, 0, 1), (1, 0, 1), parted=True)
        ahead = states_of(book)
        for deed, handed, due in (
            (book.lay, ((0, 0, 1),), There), (book.lay, ((0, 5, 1),), NoClaims), (book.lay, (None,), NoClaim),
            (book.deny, ((0, 1, 1),), Missing), (book.deny, ([],), NoClaim), (book.merge, (0, 3), NoHolder),
            (book.merge, (0, 0), NoHolder), (book.swap, (0, 1), NoWill), (book.swap, (0, 3), NoHolder),
            (book.land_now, (4,), NoHolder),
        ):
            self.assertIs(answer_of(deed, *handed), due)
            self.assertEqual(states_of(book), ahead)
        book.undo()
        self.assertIs(book.parting_now(), None)

    def test_questions_are_no_deeds(self):
        book = book_with((0, 0, 1), (1, 0, 1), parted=True)
        ahead = states_of(book)
        for ask in (book.claims_now, book.parting_now, book.plea_now, book.lack_now, book.twin):
            ask()
        book.land_now(0)
        self.assertEqual(states_of(book), ahead)

    def test_a_twin_has_what_stands_and_the_deeds(self):
        book = book_with((0, 0, 1), (1, 0, 1), parted=True)
        twin = book.twin()
        self.assertIs(twin.__class__, Book)
        self.assertIsNot(twin, book)
        self.assertEqual(states_of(twin), states_of(book))
        self.assertEqual(len(states_of(twin)), 4)

    def test_each_goes_on_by_itself(self):
        book = book_with((0, 0, 1), (1, 0, 1), parted=True)
        twin = book.twin()
        ahead = states_of(book)
        twin.lay((3, 0, 1))
        twin.undo()
        twin.undo()
        twin.undo()
        self.assertEqual(states_of(book), ahead)
        other = states_of(twin)
        book.undo()
        book.deny((0, 0, 1))
        book.lay((2, 0, 1))
        self.assertEqual(states_of(twin), other)
        self.assertEqual(twin.claims_now(), ((0, 0, 1),))
        self.assertEqual(book.claims_now(), ((1, 0, 1), (2, 0, 1)))

    def test_a_twin_has_the_same_houses_and_odd(self):
        book = Book(LANE, (1,), 1, ((0, 5), (0, 0), (0, 0), (0, 0)))
        book.lay((0, 0, 1))
        book.lay((1, 0, 1))
        twin = book.twin()
        self.assertEqual((book.near(), book.parting_now()), (twin.near(), twin.parting_now()))
        self.assertEqual(twin.plea_now(), (LANE, (1,), ALIKE[1], 1))

    def test_two_books_have_nothing_in_common(self):
        one, other = lane_book(), lane_book()
        one.lay((0, 0, 1))
        one.part()
        self.assertEqual(state_of(other), state_of(lane_book()))
        self.assertIs(answer_of(other.undo), NoUndo)
        other.lay((2, 0, 1))
        self.assertEqual(one.claims_now(), ((0, 0, 1),))


class Questions(unittest.TestCase):
    def test_land_now(self):
        book = book_with((0, 0, 1), (3, 0, 1))
        self.assertEqual(looks([book.land_now(who) for who in range(4)]), "[(), (), (), ()]")
        book.part()
        self.assertEqual(looks(book.land_now(0)), "((0, 0), (0, 1), (0, 2), (0, 3))")
        self.assertEqual(looks(book.land_now(3)), "((0, 4), (0, 5))")
        self.assertEqual(looks([book.land_now(1), book.land_now(2)]), "[(), ()]")

    def test_no_holder(self):
        for book in (lane_book(), book_with((0, 0, 1)), book_with((1, 0, 1), (3, 0, 1), parted=True)):
            for thing in (-1, 4, LARGE, -LARGE, True, False, "1", (1,), [1], {1: 1}) + OTHER_THAN_NUMBERS:
                self.assertIs(answer_of(book.land_now, thing), NoHolder, looks(thing))

    def test_lack_now(self):
        book = Book(((3, -1),), (1,), 2, HOUSES)
        self.assertIs(book.lack_now(), None)
        book.lay((1, 0, 1))
        self.assertIs(book.lack_now(), None)
        book.lay((3, 0, 1))
        self.assertEqual(looks(book.lack_now()), "((1, 3), ((0, 0),))")
        book.undo()
        self.assertIs(book.lack_now(), None)

    def test_plea_now(self):
        book = book_with((0, 0, 1), (3, 1, 4), odd=7)
        self.assertEqual(looks(book.plea_now()), looks((LANE, (1, 1, 1), ((0, 0, 1), (3, 1, 4)), 7)))


class Refusals(unittest.TestCase):
    def test_what_is_no_claim(self):
        for book in (lane_book(), book_with((0, 0, 1)), full_book(), book_with((0, 0, 1), (3, 0, 1), parted=True)):
            ahead = states_of(book)
            for thing in NO_CLAIMS_OF_ONE:
                self.assertIs(answer_of(book.lay, thing), NoClaim, looks(thing))
                self.assertIs(answer_of(book.deny, thing), NoClaim, looks(thing))
            self.assertEqual(states_of(book), ahead)

    def test_what_is_no_holder(self):
        book = book_with((0, 0, 1), (3, 0, 1), parted=True)
        ahead = states_of(book)
        bad = (NoHolder, (1, 2, 4, -1, LARGE, True, False, (0,), [0], "0", {0: 0}) + OTHER_THAN_NUMBERS)
        for deed in (book.merge, book.swap):
            self.assertEqual(faults_of_refusals(deed, (0, 3), (bad, bad)), [])
        self.assertEqual(states_of(book), ahead)


class AgainstTheWords(unittest.TestCase):
    meads = (
        LANE, ((1, 2, 3), (-1, -1, 4)), ((1, 1, 1), (-1, -1, -1), (1, 1, 1)), ((2, 3, -1), (5, 7, -1)),
        ((-1, -1), (2, 3), (5, 7), (-1, -1)), ((9, -1, 1, 1),),
    )

    def some_deed(self, chance, claims):
        """A word and what is handed in, well more often than not."""
        word = chance.choice("lay lay lay lay deny deny merge part part near swap swap swap undo".split())
        if word == "lay":
            return (word, (chance.randrange(4), chance.randrange(4), chance.choice((1, 1, 2, 3, 20))))
        if word == "deny":
            other = (chance.randrange(4), chance.randrange(3), 1)
            return (word, chance.choice(claims + (other,)))
        if word in ("merge", "swap"):
            holders = plain_holders(claims) + [chance.randrange(4)]
            return (word, chance.choice(holders), chance.choice(holders))
        return (word,)

    def go(self, seed, mead, many):
        """Tell many deeds to books and to plain books, and see that all tell the same."""
        chance = random.Random(seed)
        custom, odd = chance.choice(((1, 1, 1), (3, 5))), chance.choice((2, 3, 5, 9, 999))
        parts = (mead, custom, odd, chance.choice(HOUSES_OF_ALL))
        pairs = [(Book(*parts), PlainBook(*parts))]
        told = []
        for _ in range(many):
            book, plain = chance.choice(pairs)
            if chance.randrange(15) == 0 and len(pairs) < 4:
                pairs.append((book.twin(), plain.twin()))
            word, *handed = self.some_deed(chance, book.claims_now())
            due = plain.say(word, *handed)
            told.append((word, due if due.__class__ is type else None if due is None else due > 0))
            self.assertEqual(answer_of(getattr(book, word), *handed), due, (seed, mead, word, handed))
            for one, other in pairs:
                self.assertEqual(state_of(one), other.state(), (seed, mead, word, handed))
        for book, plain in pairs:
            self.assertEqual(len(states_of(book)), len(plain.stood))
        return told

    def test_many_deeds(self):
        told = []
        for at, mead in enumerate(self.meads):
            for seed in range(5):
                told += self.go(10 * at + seed, mead, 80)
        for due in (
            ("lay", True), ("lay", False), ("lay", There), ("lay", NoClaims), ("deny", True), ("deny", Missing),
            ("merge", True), ("merge", NoHolder), ("merge", TooMany), ("part", True), ("part", False),
            ("part", NoParting), ("near", True), ("near", False), ("near", NoParting), ("swap", NoWill),
            ("swap", NoHolder), ("swap", NoParting), ("swap", False), ("undo", None), ("undo", NoUndo),
        ):
            self.assertTrue(due in told, due)


if __name__ == "__main__":
    unittest.main()

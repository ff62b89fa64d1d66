"""Rights and shares [2.1] to [2.3], and what [0.2] to [0.5] ask of them."""

import unittest
from fractions import Fraction
from itertools import combinations, product

from meadshares.claims import are_claims, count_of, denied, holders_of, is_claim, is_custom, joined, laid, share_of
from meadshares.errors import Missing, NoClaim, NoClaims, NoCustom, NoHolder, There, TooMany
from tests.helpers import CLAIMS, CUSTOM, LARGE, OTHER_THAN_NUMBERS, THINGS, answer_of, faults_of_refusals, looks

TWELVE = tuple((holder, sort, 1) for holder in (0, 1) for sort in range(6))
NO_CUSTOMS = (
    (), (0,), (101,), (1,) * 7, (1, 0), (1, 101), (1, 1, 1, 1, 1, 0), (-1,), (LARGE,), (True,), (1, True), (False,),
    (1, False), [1], [1, 2], ((1,),), ([1],), (1, [1]), (1, (1,)), (1, "1"), (1, None), "1", ("1",), {0: 1}, {1: 1}, 1,
)
NO_CLAIMS_ALONE = (
    (), (0,), (0, 0), (0, 0, 1, 1), (0, 0, 0), (0, 0, 21), (0, -1, 1), (0, 6, 1), (-1, 0, 1), (4, 0, 1),
    (LARGE, 0, 1), (0, LARGE, 1), (0, 0, LARGE), (0, 0, -LARGE), (True, 0, 1), (False, 0, 1), (0, True, 1),
    (0, False, 1), (0, 0, True), (0, 0, False), [0, 0, 1], ((0, 0, 1),), [(0, 0, 1)], (0, 0, [1]), (0, (0,), 1),
    ("0", 0, 1), (0, "0", 1), (0, 0, "1"), (None, 0, 1), (0, None, 1), (0, 0, None), "001", {0: 0, 1: 0, 2: 1},
)
NO_CLAIMS_TOGETHER = (
    (), [], (0, 0, 1), [(0, 0, 1)], ([0, 0, 1],), ((0, 0, 1), [0, 1, 1]), ([0, 0, 1], (0, 1, 1)),
    ((0, 1, 1), (0, 0, 1)), ((1, 0, 1), (0, 5, 1)), ((0, 0, 1), (0, 0, 1)), ((0, 0, 1), (0, 0, 2)),
    ((0, 0, 2), (0, 0, 1)), ((0, 0, 1), (0, 1, 1), (0, 1, 2), (1, 0, 1)), ((0, 0, 1), (1, 1, 1), (1, 1, 1)),
    TWELVE + ((2, 0, 1),), TWELVE[1:] + TWELVE[:1], ((0, 0, 1), (0, 1, 1), (0, 2, True)), ((False, 0, 1),),
    ((0, 0, 1), (True, 0, 1)), ((0, 0, 1), ()), ((0, 0, 1), None), (((0, 0, 1),),), {(0, 0, 1): 1}, "001",
    ((0, 0, 1), (0, 6, 1)), ((0, 0, 1), (4, 0, 1)), ((0, 0, 0), (0, 1, 1)), ((0, 0, 1), (0, 1, 21)),
)


class IsCustom(unittest.TestCase):
    def test_how_many_counts(self):
        for many in range(12):
            self.assertIs(is_custom((1,) * many), 1 <= many <= 6, many)

    def test_each_count(self):
        for number in list(range(-5, 110)) + [LARGE, -LARGE]:
            for asked in ((number,), (7, number), (number, 7), (1, 2, 3, 4, 5, number)):
                self.assertIs(is_custom(asked), 1 <= number <= 100, asked)

    def test_counts_need_not_rise(self):
        for custom in ((5, 5), (9, 3), (100, 1, 100, 1, 100, 1), CUSTOM):
            self.assertIs(is_custom(custom), True)

    def test_what_is_none(self):
        for thing in NO_CUSTOMS:
            self.assertIs(answer_of(is_custom, thing), False, looks(thing))

    def test_things_of_any_kind(self):
        for thing in THINGS:
            self.assertIs(answer_of(is_custom, thing), False, looks(thing))
        for thing in THINGS:
            within = thing.__class__ is int and 1 <= thing <= 100
            self.assertIs(answer_of(is_custom, (thing,)), within, looks(thing))
            self.assertIs(answer_of(is_custom, (thing, 3)), within, looks(thing))
            self.assertIs(answer_of(is_custom, (3, thing)), within, looks(thing))
            self.assertIs(answer_of(is_custom, [thing]), False, looks(thing))


class IsClaim(unittest.TestCase):
    def test_each_number(self):
        for number in list(range(-5, 30)) + [100, LARGE, -LARGE]:
            self.assertIs(is_claim((number, 0, 1)), 0 <= number <= 3, number)
            self.assertIs(is_claim((0, number, 1)), 0 <= number <= 5, number)
            self.assertIs(is_claim((0, 0, number)), 1 <= number <= 20, number)

    def test_all_claims(self):
        for claim in product(range(4), range(6), (1, 2, 19, 20)):
            self.assertIs(is_claim(claim), True)

    def test_what_is_none(self):
        for thing in NO_CLAIMS_ALONE:
            self.assertIs(answer_of(is_claim, thing), False, looks(thing))

    def test_things_of_any_kind(self):
        for thing in THINGS:
            self.assertIs(answer_of(is_claim, thing), False, looks(thing))
            self.assertIs(answer_of(is_claim, (thing,)), False, looks(thing))
        for thing in OTHER_THAN_NUMBERS:
            for asked in ((thing, 0, 1), (0, thing, 1), (0, 0, thing), (thing, thing, thing), [thing, 0, 1]):
                self.assertIs(answer_of(is_claim, asked), False, looks(asked))


class AreClaims(unittest.TestCase):
    def test_how_many(self):
        both = tuple((holder, sort, 20) for holder in (0, 1, 3) for sort in range(6))
        for many in range(len(both)):
            self.assertIs(are_claims(both[:many]), 1 <= many <= 12, many)
            self.assertIs(are_claims(both[::-1][:many][::-1]), 1 <= many <= 12, many)

    def test_claims(self):
        for claims in (CLAIMS, TWELVE, ((3, 5, 20),), ((0, 0, 20), (0, 1, 1)), ((0, 5, 9), (1, 0, 9))):
            self.assertIs(are_claims(claims), True)

    def test_pairs(self):
        some = list(product((0, 1), (0, 1), (1, 2)))
        for one, other in product(some, some):
            self.assertIs(are_claims((one, other)), one[:2] < other[:2], (one, other))

    def test_what_is_none(self):
        for thing in NO_CLAIMS_TOGETHER:
            self.assertIs(answer_of(are_claims, thing), False, looks(thing))

    def test_a_claim_that_is_none_makes_no_claims(self):
        for thing in NO_CLAIMS_ALONE + THINGS:
            for asked in (thing, (thing,), ((0, 0, 1), thing), (thing, (3, 5, 1)), ((0, 0, 1), thing, (3, 5, 1))):
                # ((0, 0, 1),) and its like are claims themselves, and stand among those that are no claim.
                if not (asked is thing and thing == ((0, 0, 1),)):
                    self.assertIs(answer_of(are_claims, asked), False, looks(asked))


class Shares(unittest.TestCase):
    def test_holders(self):
        self.assertEqual(looks(holders_of(CLAIMS)), "[0, 1, 3]")
        self.assertEqual(looks(holders_of(((2, 5, 20),))), "[2]")
        for many in range(1, 5):
            for holders in combinations(range(4), many):
                claims = tuple((holder, sort, 3) for holder in holders for sort in (1, 4))
                self.assertEqual(looks(holders_of(claims)), looks(list(holders)))

    def test_the_list_told_is_the_askers_own(self):
        told = holders_of(CLAIMS)
        told.append("mine")
        told.reverse()
        self.assertEqual(looks(holders_of(CLAIMS)), "[0, 1, 3]")
        told.clear()
        self.assertEqual(looks(answer_of(holders_of, CLAIMS)), "[0, 1, 3]")

    def test_counts(self):
        self.assertEqual([count_of(CUSTOM, CLAIMS, holder) for holder in (0, 1, 3)], [26, 20, 60])
        self.assertEqual(count_of((7,), ((2, 0, 20),), 2), 140)
        self.assertEqual(count_of((1, 1, 1, 1, 1, 100), ((0, 5, 20), (1, 5, 1)), 0), 2000)
        self.assertEqual([count_of((4, 4), ((0, 0, 3), (0, 1, 5), (1, 1, 2)), holder) for holder in (0, 1)], [32, 8])

    def test_shares(self):
        self.assertEqual([share_of(CUSTOM, CLAIMS, holder) for holder in (0, 1, 3)], [(13, 53), (10, 53), (30, 53)])
        self.assertEqual(looks(share_of((7,), ((2, 0, 20),), 2)), "(1, 1)")
        self.assertEqual(share_of((4, 4), ((0, 0, 3), (0, 1, 5), (1, 1, 2)), 0), (4, 5))
        self.assertEqual(share_of((2, 3), ((0, 0, 3), (1, 1, 2)), 1), (1, 2))
        self.assertEqual(share_of((1, 100), ((0, 0, 1), (1, 1, 20)), 0), (1, 2001))

    def test_shares_of_many_claims(self):
        for custom in (CUSTOM, (1, 1, 1), (6, 4, 10), (100, 50, 25)):
            for manys in product((1, 2, 6, 20), repeat=3):
                claims = ((0, 0, manys[0]), (0, 1, 4), (1, 1, manys[1]), (2, 2, manys[2]))
                counts = [custom[0] * manys[0] + custom[1] * 4, custom[1] * manys[1], custom[2] * manys[2]]
                for holder, count in enumerate(counts):
                    share = Fraction(count, sum(counts))
                    self.assertEqual(looks(share_of(custom, claims, holder)),
                                     looks((share.numerator, share.denominator)))
                    self.assertEqual(looks(count_of(custom, claims, holder)), looks(count))


class Laid(unittest.TestCase):
    def test_where_it_stands(self):
        self.assertEqual(laid(CLAIMS, (0, 1, 9)), ((0, 0, 2), (0, 1, 9), (0, 2, 1), (1, 1, 4), (3, 0, 20)))
        self.assertEqual(laid(CLAIMS, (3, 5, 1)), CLAIMS + ((3, 5, 1),))
        self.assertEqual(laid(((2, 2, 2),), (0, 5, 20)), ((0, 5, 20), (2, 2, 2)))
        self.assertEqual(laid(TWELVE[1:], TWELVE[0]), TWELVE)

    def test_there(self):
        for holder, sort, _ in CLAIMS:
            for many in range(1, 21):
                self.assertIs(answer_of(laid, CLAIMS, (holder, sort, many)), There)

    def test_there_ahead_of_too_many(self):
        for claim in TWELVE + ((0, 0, 20), (1, 5, 7)):
            self.assertIs(answer_of(laid, TWELVE, claim), There)

    def test_too_many(self):
        for claim in ((2, 0, 1), (3, 5, 20)):
            with self.assertRaises(TooMany) as taken:
                laid(TWELVE, claim)
            self.assertEqual((taken.exception.many, taken.exception.most), (13, 12))
        self.assertEqual(len(laid(TWELVE[1:], (3, 5, 20))), 12)

    def test_every_claim(self):
        for claim in product(range(4), range(6), (1, 20)):
            expected = There if claim[:2] in [one[:2] for one in CLAIMS] else tuple(sorted(CLAIMS + (claim,)))
            told = answer_of(laid, CLAIMS, claim)
            self.assertEqual(told, expected)
            if told is not There:
                self.assertIs(are_claims(told), True)
                self.assertEqual(looks(denied(told, claim)), looks(CLAIMS))


class Denied(unittest.TestCase):
    def test_each(self):
        for at, claim in enumerate(CLAIMS):
            self.assertEqual(looks(denied(CLAIMS, claim)), looks(CLAIMS[:at] + CLAIMS[at + 1:]))
        for at, claim in enumerate(TWELVE):
            self.assertEqual(looks(denied(TWELVE, claim)), looks(TWELVE[:at] + TWELVE[at + 1:]))

    def test_missing(self):
        for claim in product(range(4), range(6), (1, 2, 3, 4, 19, 20)):
            if claim not in CLAIMS:
                self.assertIs(answer_of(denied, CLAIMS, claim), Missing, claim)

    def test_the_only_one(self):
        self.assertIs(answer_of(denied, ((1, 2, 3),), (1, 2, 3)), NoClaims)
        for claim in ((1, 2, 4), (1, 3, 3), (2, 2, 3)):
            self.assertIs(answer_of(denied, ((1, 2, 3),), claim), Missing)


class Joined(unittest.TestCase):
    def test_both_have_one_sort(self):
        self.assertEqual(joined(((0, 1, 5), (1, 1, 7)), 0, 1), ((0, 1, 12),))
        self.assertEqual(joined(((0, 1, 5), (1, 1, 7)), 1, 0), ((1, 1, 12),))

    def test_both_have_several_sorts(self):
        claims = ((0, 0, 1), (0, 1, 2), (0, 5, 3), (2, 0, 10), (2, 1, 10), (2, 4, 10), (3, 1, 7))
        self.assertEqual(joined(claims, 0, 2), ((0, 0, 11), (0, 1, 12), (0, 4, 10), (0, 5, 3), (3, 1, 7)))
        self.assertEqual(joined(claims, 2, 0), ((2, 0, 11), (2, 1, 12), (2, 4, 10), (2, 5, 3), (3, 1, 7)))
        self.assertEqual(joined(claims, 3, 2), claims[:3] + ((3, 0, 10), (3, 1, 17), (3, 4, 10)))

    def test_both_have_no_sort(self):
        self.assertEqual(joined(CLAIMS, 0, 1), ((0, 0, 2), (0, 1, 4), (0, 2, 1), (3, 0, 20)))
        self.assertEqual(joined(CLAIMS, 1, 0), ((1, 0, 2), (1, 1, 4), (1, 2, 1), (3, 0, 20)))
        self.assertEqual(joined(CLAIMS, 3, 1), ((0, 0, 2), (0, 2, 1), (3, 0, 20), (3, 1, 4)))

    def test_sums(self):
        for one, other in product(range(1, 21), range(1, 21)):
            claims = ((1, 3, one), (2, 3, other))
            if one + other <= 20:
                self.assertEqual(joined(claims, 2, 1), ((2, 3, one + other),))
            else:
                self.assertEqual(self.too_many(claims, 2, 1), (one + other, 20))

    def test_the_least_sort_of_several(self):
        claims = ((0, 0, 10), (0, 2, 15), (0, 4, 20), (3, 0, 10), (3, 2, 6), (3, 4, 20))
        self.assertEqual(self.too_many(claims, 0, 3), (21, 20))
        self.assertEqual(self.too_many(claims, 3, 0), (21, 20))
        claims = ((0, 0, 11), (0, 2, 15), (3, 0, 20), (3, 2, 6))
        self.assertEqual(self.too_many(claims, 0, 3), (31, 20))

    def test_the_rights_of_others_are_no_matter(self):
        claims = ((0, 0, 10), (1, 0, 20), (2, 0, 10), (3, 0, 20))
        self.assertEqual(joined(claims, 0, 2), ((0, 0, 20), (1, 0, 20), (3, 0, 20)))

    def test_no_holder(self):
        for one in range(-2, 7):
            for other in range(-2, 7):
                if one == other or one not in (0, 1, 3) or other not in (0, 1, 3):
                    self.assertIs(answer_of(joined, CLAIMS, one, other), NoHolder, (one, other))

    def test_no_holder_ahead_of_too_many(self):
        claims = ((0, 0, 20), (1, 0, 20))
        for one, other in ((0, 0), (1, 1), (0, 2), (2, 0), (0, True), (False, 1), (True, 0)):
            self.assertIs(answer_of(joined, claims, one, other), NoHolder)
        self.assertIs(answer_of(joined, claims, 0, 1), TooMany)

    def test_what_is_told_are_claims(self):
        for one, other in product((0, 1), (0, 1)):
            if one != other:
                told = joined(TWELVE, one, other)
                self.assertIs(are_claims(told), True)
                self.assertEqual(told, tuple((one, sort, 2) for sort in range(6)))

    def too_many(self, claims, one, other):
        """The numbers of the refusal that is due."""
        with self.assertRaises(TooMany) as taken:
            joined(claims, one, other)
        return (taken.exception.many, taken.exception.most)


class Refusals(unittest.TestCase):
    bad_customs = (NoCustom, NO_CUSTOMS + THINGS)
    bad_claims = (NoClaims, NO_CLAIMS_TOGETHER + THINGS)
    bad_claim = (NoClaim, NO_CLAIMS_ALONE + THINGS)
    # Of CLAIMS, whose holders are 0, 1 and 3.
    bad_holders = (NoHolder, (2, 4, -1, LARGE, -LARGE, (0,), [0], "0", {0: 0}, (0, 1)) + OTHER_THAN_NUMBERS)

    def test_each_of_what_is_handed_in(self):
        for ask, good, bad in (
            (holders_of, (CLAIMS,), (self.bad_claims,)),
            (count_of, (CUSTOM, CLAIMS, 0), (self.bad_customs, self.bad_claims, self.bad_holders)),
            (share_of, (CUSTOM, CLAIMS, 0), (self.bad_customs, self.bad_claims, self.bad_holders)),
            (laid, (CLAIMS, (2, 0, 1)), (self.bad_claims, self.bad_claim)),
            (denied, (CLAIMS, (0, 0, 2)), (self.bad_claims, self.bad_claim)),
            (joined, (CLAIMS, 0, 1), (self.bad_claims, self.bad_holders, self.bad_holders)),
        ):
            self.assertEqual(faults_of_refusals(ask, good, bad), [])

    def test_claims_that_do_not_stand_under_the_custom(self):
        for ask in (count_of, share_of):
            for many in range(1, 7):
                for sort in range(6):
                    claims = ((0, 0, 1), (1, sort, 1))
                    told = answer_of(ask, (2,) * many, claims, 1)
                    self.assertIs(told is NoClaims, sort >= many, (many, sort))
                    if sort >= many:
                        for holder in (0, 2, True, None, []):
                            self.assertIs(answer_of(ask, (2,) * many, claims, holder), NoClaims)
                            self.assertIs(answer_of(ask, [2] * many, claims, holder), NoCustom)

    def test_claims_of_any_sort_are_laid_denied_and_joined(self):
        self.assertEqual(laid(((0, 5, 1),), (1, 5, 1)), ((0, 5, 1), (1, 5, 1)))
        self.assertEqual(denied(((0, 5, 1), (1, 5, 1)), (0, 5, 1)), ((1, 5, 1),))
        self.assertEqual(joined(((0, 5, 1), (1, 5, 1)), 0, 1), ((0, 5, 2),))

    def test_the_same_answer_again_behind_a_refusal(self):
        ahead = looks([laid(CLAIMS, (2, 0, 1)), denied(CLAIMS, (0, 0, 2)), joined(CLAIMS, 0, 1)])
        for ask, handed in ((laid, (CLAIMS, (0, 0, 2))), (denied, (CLAIMS, (0, 0, 3))), (joined, (CLAIMS, 0, 0))):
            self.assertTrue(issubclass(answer_of(ask, *handed), ValueError))
        self.assertEqual(looks([laid(CLAIMS, (2, 0, 1)), denied(CLAIMS, (0, 0, 2)), joined(CLAIMS, 0, 1)]), ahead)


if __name__ == "__main__":
    unittest.main()

"""Texts [10.1], and what [0.2] to [0.5] ask of them."""

import re
import unittest

from meadshares.errors import NoClaims, NoMead, NoText
from meadshares.texts import read_claims, read_mead, shown_claims, shown_mead
from tests.helpers import (
    ALIKE, CLAIMS, LARGE, MEAD, MEADS, SIGNS, SMALL, STRIPS, TEN, THINGS, answer_of, faults_of_refusals, looks,
)

ALL_MEADS = MEADS + SMALL + (STRIPS, TEN)
ALL_CLAIMS = ALIKE + (
    CLAIMS, ((3, 5, 20),), ((0, 0, 20), (0, 5, 1), (3, 0, 10)), ((2, 1, 7),),
    tuple((holder, sort, 10 + sort) for holder in range(2) for sort in range(6)),
)
NUMBER = re.compile(r"0|-?[1-9][0-9]{0,4}", re.ASCII)


def plain_rows(text, mark):
    """The rows of numbers that a text writes, None where it writes none."""
    rows = [row.split(",") for row in text.split(mark)]
    if not all(NUMBER.fullmatch(word) for row in rows for word in row):
        return None
    return tuple(tuple(int(word) for word in row) for row in rows)


def plain_mead(text):
    """The mead that a text writes, NoText where it writes none."""
    rows = plain_rows(text, "/")
    if rows is None or len(rows) > 4 or len(rows[0]) > 6 or any(len(row) != len(rows[0]) for row in rows):
        return NoText
    marks = [mark for row in rows for mark in row]
    cells = [mark for mark in marks if mark >= 0]
    return rows if all(-2 <= mark <= 99 for mark in marks) and 1 <= len(cells) <= 10 else NoText


def plain_claims(text):
    """The claims that a text writes, NoText where it writes none."""
    rows = plain_rows(text, ";")
    if rows is None or len(rows) > 12 or any(len(row) != 3 for row in rows):
        return NoText
    within = all(0 <= holder <= 3 and 0 <= sort <= 5 and 1 <= many <= 20 for holder, sort, many in rows)
    heads = [row[:2] for row in rows]
    return rows if within and heads == sorted(set(heads)) else NoText


def otherwise(text):
    """The text with a sign put in, taken out or exchanged, at any place."""
    for at in range(len(text) + 1):
        for sign in SIGNS:
            yield text[:at] + sign + text[at:]
            yield text[:at] + sign + text[at + 1:]
        yield text[:at] + text[at + 1:]
        yield text[:at] + "00" + text[at:]
        yield text[:at]
        yield text[at:]


class Shown(unittest.TestCase):
    def test_meads(self):
        self.assertEqual(looks(shown_mead(MEAD)), "'3,0,-2,7/-1,-1,-1,99/10,-2,4,5'")
        self.assertEqual(shown_mead(((0,),)), "0")
        self.assertEqual(shown_mead(((5, -1, 99),)), "5,-1,99")
        self.assertEqual(shown_mead(((5,), (-1,), (0,), (7,))), "5/-1/0/7")

    def test_claims(self):
        self.assertEqual(looks(shown_claims(CLAIMS)), "'0,0,2;0,2,1;1,1,4;3,0,20'")
        self.assertEqual(shown_claims(((3, 5, 20),)), "3,5,20")

    def test_what_is_none(self):
        no_meads = ((), ((),), ((1, 2), (3,)), ((100,),), ((-3,),), ((True,),), [(1,)], ([1],), ((-1,),), "5",
                    ((LARGE,),))
        no_claims = ((), ((0, 0, 0),), ((0, 0, 21),), ((4, 0, 1),), ((0, 6, 1),), ((0, 0, 1), (0, 0, 1)), [(0, 0, 1)],
                     ((0, 0, 1), (0, 0, 2)), ((1, 0, 1), (0, 0, 1)), ((0, 0, True),), ([0, 0, 1],), (0, 0, 1), "0,0,1")
        self.assertEqual(faults_of_refusals(shown_mead, (MEAD,), ((NoMead, no_meads + THINGS),)), [])
        self.assertEqual(faults_of_refusals(shown_claims, (CLAIMS,), ((NoClaims, no_claims + THINGS),)), [])


class Read(unittest.TestCase):
    def test_meads(self):
        self.assertEqual(looks(read_mead("3,0,-2,7/-1,-1,-1,99/10,-2,4,5")), looks(MEAD))
        self.assertEqual(looks(read_mead("0")), "((0,),)")

    def test_claims(self):
        self.assertEqual(looks(read_claims("0,0,2;0,2,1;1,1,4;3,0,20")), looks(CLAIMS))
        self.assertEqual(looks(read_claims("3,5,20")), "((3, 5, 20),)")

    def test_what_is_shown_is_read_again(self):
        for mead in ALL_MEADS:
            self.assertEqual(looks(read_mead(answer_of(shown_mead, mead))), looks(mead))
        for claims in ALL_CLAIMS:
            self.assertEqual(looks(read_claims(answer_of(shown_claims, claims))), looks(claims))

    def test_numbers_otherwise(self):
        for word in ("05", "00", "+5", "-0", "--1", "5-", "-", "", " 5", "5 ", "5\n", "\n5", "5\t", "5_0", "5.0", "0x5",
                     "5e1", "000005", "100000", "123456", "-100000", "5" * 1000, "-01", "-02", "+0", "a", "True"):
            for text in (word, f"{word},1", f"1,{word}", f"1/{word}", f"{word}/1", f"1,{word},1"):
                self.assertIs(answer_of(read_mead, text), plain_mead(text), text)
            self.assertIs(answer_of(read_mead, word), NoText, word)
            for text in (f"{word},0,1", f"0,{word},1", f"0,0,{word}", f"0,0,1;{word},0,1"):
                self.assertIs(answer_of(read_claims, text), NoText, text)

    def test_numbers_beyond_what_may_stand(self):
        for word, well in (("99", True), ("100", False), ("99999", False), ("-2", True), ("-3", False),
                           ("-99999", False)):
            self.assertIs(answer_of(read_mead, f"{word},5") is NoText, not well, word)
        for text, well in (("3,5,20", True), ("4,5,20", False), ("3,6,20", False), ("3,5,21", False), ("3,5,0", False),
                           ("-1,5,20", False), ("3,-1,20", False), ("3,5,-1", False), ("0,0,1", True)):
            self.assertIs(answer_of(read_claims, text) is NoText, not well, text)

    def test_rows_and_claims_otherwise(self):
        for text in ("1,2/3", "1/2,3", "1,2/", "/1,2", "1,2//3,4", "1,,2", ",1", "1,", "/", ",", "", "-1", "-1,-2",
                     "1;2", "1 2", "1, 2", "1 ,2", "1,2\n", "1/2/3/4/5", "1,2,3,4,5,6,7", "1,1,1,1,1,1/1,1,1,1,1,1",
                     "(1,2)", "[1]"):
            self.assertIs(answer_of(read_mead, text), NoText, text)
        for text in ("", ";", "0,0,1;", ";0,0,1", "0,0,1;;1,0,1", "0,0", "0,0,1,1", "0,0,1;0,0,1", "0,0,1;0,0,2",
                     "1,0,1;0,0,1", "0,1,1;0,0,1", "0,0,1/1,0,1", "0,0,1,1,0,1", "0,0,1; 1,0,1", "0,0,1\n", "0 0 1",
                     ";".join(f"{k // 4},{k % 4},1" for k in range(13))):
            self.assertIs(answer_of(read_claims, text), NoText, text)
        twelve = ";".join(f"{k // 4},{k % 4},1" for k in range(12))
        self.assertEqual(shown_claims(read_claims(twelve)), twelve)

    def test_a_sign_put_in_taken_out_or_exchanged(self):
        wells = 0
        for mead in (MEAD, ((0,),), ((5, -1),), ((1,), (-2,)), ((99, 0, 10),)):
            for text in otherwise(shown_mead(mead)):
                due = plain_mead(text)
                wells += due is not NoText
                self.assertEqual(looks(answer_of(read_mead, text)), looks(due), looks(text))
        for claims in (CLAIMS[1:3], ((3, 5, 20),), ((0, 0, 1), (0, 1, 1))):
            for text in otherwise(shown_claims(claims)):
                due = plain_claims(text)
                wells += due is not NoText
                self.assertEqual(looks(answer_of(read_claims, text)), looks(due), looks(text))
        self.assertGreater(wells, 500)

    def test_what_is_read_is_shown_by_just_that_text(self):
        for text in otherwise("10,-1/0,2"):
            told = answer_of(read_mead, text)
            if told is not NoText:
                self.assertEqual(shown_mead(told), text)

    def test_things_of_any_kind(self):
        for thing in THINGS:
            self.assertEqual(answer_of(read_mead, thing), ((0,),) if thing == "0" else NoText, looks(thing))
            self.assertIs(answer_of(read_claims, thing), NoText, looks(thing))
        for thing in (5, ((5,),), ["5"], ("5",), {"5": "5"}, CLAIMS, MEAD, ["0,0,1"], [["0", "0", "1"]], True):
            self.assertIs(answer_of(read_mead, thing), NoText, looks(thing))
            self.assertIs(answer_of(read_claims, thing), NoText, looks(thing))

    def test_the_same_answer_again(self):
        ahead = looks([read_mead("5,-1"), read_claims("0,0,1")])
        self.assertIs(answer_of(read_mead, "5,-3"), NoText)
        self.assertIs(answer_of(read_claims, "0,0,0"), NoText)
        self.assertEqual(looks([read_mead("5,-1"), read_claims("0,0,1")]), ahead)


if __name__ == "__main__":
    unittest.main()

"""The desk [10.2], [10.3], and what [0.2] to [0.5] ask of it."""

import random
import unittest
from itertools import permutations

from meadshares.book import Book
from meadshares.claims import share_of
from meadshares.desk import Desk
from meadshares.errors import (
    MeadError, Missing, NoBook, NoClaim, NoClaims, NoCustom, NoHolder, NoHouses, NoLine, NoOdd, NoParting, NoText,
    NoUndo, NoWill, There, TooMany,
)
from meadshares.walks import steps_round
from tests.helpers import ROW, SIGNS, STRIPS, TEN, THINGS, answer_of, looks

LANE = "2,2,2,2,2,2/-1,-1,-1,-1,-1,-1"
OPEN = f"mead {LANE} 2 1,1,1"
# One line of each form, with numbers that are well enough to be read.
LINES = (
    OPEN, "houses 0 5 0 0 0 0 0 2", "lay 0 0 1", "deny 0 0 1", "merge 0 1", "part", "near", "swap 0 1", "undo",
    "claims", "parting", "land 0", "bounds 0", "share 0", "lack",
)
NO_NUMBERS = (
    "05", "00", "+5", "-0", "--1", "-", "5-", "x", "1,1", "1;1", "1/1", "1.0", "100000", "-100000", "000001", "True",
    "None", "(1)", "1_0", "0x1", "'1'", "~",
)


def desk_with(*lines):
    desk = Desk()
    for line in lines:
        desk.say(line)
    return desk


def parted_desk():
    return desk_with(OPEN, "houses 0 5 0 0 0 0 0 2", "lay 0 0 1", "lay 1 0 1", "part")


def told_by(desk):
    """What the desk answers to all its questions, or what it refuses them with."""
    of_holders = [f"{word} {who}" for word in ("land", "bounds", "share") for who in range(4)]
    return looks([answer_of(desk.say, line) for line in ["claims", "parting", "lack"] + of_holders])


def otherwise(line):
    """Lines that differ from a line in their form: a word more or less, blanks elsewhere, another first word."""
    words = line.split(" ")
    yield from (line + " 0", line + " x", line + " ", " " + line, "\n" + line, "\t" + line)
    for sign in "\t\n":
        yield " ".join([words[0] + sign] + words[1:])
        yield " ".join([words[0][:1] + sign + words[0][1:]] + words[1:])
        yield " ".join([sign] + words[1:])
    yield from (line.upper(), line.title(), "x" + line, line + "x" if len(words) == 1 else "", words[0] + "x 0 0 0")
    yield from (line.replace(" ", "\t"), line.replace(" ", "\n"), line.replace(" ", "  ")) if len(words) > 1 else ()
    for at in range(1, len(words)):
        ahead, behind = " ".join(words[:at]), " ".join(words[at:])
        for between in ("  ", "\t", "\n", ",", "", " \t ", " \n "):
            yield ahead + between + behind
        yield from (ahead, behind, " ".join(words[:at] + words[at + 1:]), f"{ahead} {words[at]} {behind}")
        # As many words, but one of them without a sign: two blanks stand together, or one at the end.
        yield " ".join(words[:at] + [""] + words[at + 1:])


def with_tabs_and_feeds(line):
    """Tuples (at, line): the line with a tab or a line feed at each place of the word `at` behind the first one."""
    words = line.split(" ")
    for at in range(1, len(words)):
        word = words[at]
        for sign in "\t\n":
            others = [word[:cut] + sign + word[cut:] for cut in range(len(word) + 1)]
            for other in others + [sign, sign + sign, sign + word + sign]:
                yield at, " ".join(words[:at] + [other] + words[at + 1:])


class NewDesk(unittest.TestCase):
    def test_no_book(self):
        for line in LINES[1:]:
            desk = Desk()
            self.assertIs(answer_of(desk.say, line), NoBook, line)
            self.assertIs(answer_of(desk.say, line), NoBook, line)

    def test_no_book_ahead_of_what_is_no_number(self):
        for line in ("houses x 0 0 0 0 0 0 0", "lay 0 0 x", "deny x x x", "merge 0 -0", "swap 00 1", "land x",
                     "bounds 100000", "share +1", "lay 9 9 9", "land 9", "houses 100 0 0 0 0 0 0 0"):
            self.assertIs(answer_of(Desk().say, line), NoBook, line)

    def test_no_book_behind_a_mead_that_is_refused(self):
        desk = Desk()
        for line in ("mead 5,-3 2 1", "mead 5,-1 x 1", "mead 5,-1 2 0", "mead 5,-1 1000 1"):
            self.assertTrue(issubclass(answer_of(desk.say, line), MeadError))
            self.assertIs(answer_of(desk.say, "claims"), NoBook)

    def test_two_desks_side_by_side(self):
        one, other = Desk(), Desk()
        one.say(OPEN)
        self.assertIs(answer_of(other.say, "claims"), NoBook)
        other.say(OPEN)
        one.say("lay 0 0 1")
        one.say("part")
        self.assertEqual([other.say("claims"), other.say("parting")], ["none", "none"])
        self.assertIs(answer_of(other.say, "undo"), NoUndo)
        other.say("lay 3 0 2")
        self.assertEqual([one.say("claims"), other.say("claims")], ["0,0,1", "3,0,2"])


class NoLines(unittest.TestCase):
    def test_lines_of_another_form(self):
        seen = 0
        for line in LINES:
            for thing in otherwise(line):
                for desk in (Desk(), desk_with(OPEN), parted_desk()):
                    ahead = told_by(desk)
                    self.assertIs(answer_of(desk.say, thing), NoLine, looks(thing))
                    self.assertEqual(told_by(desk), ahead)
                    seen += 1
        self.assertGreater(seen, 1000)

    def test_another_first_word(self):
        for word in ("", "x", "Mead", "meads", "mea", "lays", "layy", "LAY", "share/", "ok", "none", "say", "twin", "0",
                     "-1", "claims_now", "parting_now", "mead_", "__init__", "book"):
            for behind in ("", " 0", " 0 0", " 0 0 0", " 0 0 0 0 0 0 0 0", f" {LANE} 2 1"):
                for desk in (Desk(), desk_with(OPEN)):
                    self.assertIs(answer_of(desk.say, word + behind), NoLine, word + behind)

    def test_each_number_of_words(self):
        many = {line.split(" ")[0]: line.count(" ") for line in LINES}
        for word in many:
            for more in range(12):
                line = word + " 1" * more
                told = answer_of(Desk().say, line)
                self.assertIs(told is NoLine, more != many[word], line)

    def test_ahead_of_what_is_no_number(self):
        for line in ("lay x 0", "lay 0 0 1 x", "land", "land x y", "mead x", "mead x y", "mead x y z w", "houses x",
                     "part x"):
            for desk in (Desk(), desk_with(OPEN)):
                self.assertIs(answer_of(desk.say, line), NoLine, line)

    def test_things_of_any_kind(self):
        for desk in (Desk(), desk_with(OPEN), parted_desk()):
            ahead = told_by(desk)
            for thing in THINGS:
                for asked in (thing, [thing], (thing,), {"part": thing}):
                    self.assertIs(answer_of(desk.say, asked), NoLine, looks(asked))
            for line in LINES:
                for asked in (line.encode(), [line], (line,), line.split(" "), tuple(line.split(" ")), {line: line}):
                    self.assertIs(answer_of(desk.say, asked), NoLine, looks(asked))
            for sign in SIGNS:
                self.assertIs(answer_of(desk.say, sign), NoLine, looks(sign))
                self.assertIs(answer_of(desk.say, "part" + sign), NoLine, looks(sign))
                self.assertIs(answer_of(desk.say, sign + "claims"), NoLine, looks(sign))
            self.assertEqual(told_by(desk), ahead)


class TabsAndLineFeeds(unittest.TestCase):
    """The blank alone stands between words: a tab or a line feed belongs to the word that it stands in."""

    def due_of(self, line, at):
        return NoCustom if line.startswith("mead ") and at == 3 else NoText

    def test_a_word_that_is_no_number(self):
        seen = 0
        desk = parted_desk()
        ahead = told_by(desk)
        for line in LINES:
            for at, asked in with_tabs_and_feeds(line):
                self.assertIs(answer_of(desk.say, asked), self.due_of(line, at), looks(asked))
                self.assertEqual(told_by(desk), ahead)
                seen += 1
        self.assertGreater(seen, 200)
        # None of them was a deed: what is undone is `part`.
        self.assertEqual([desk.say("undo"), desk.say("parting")], ["ok", "none"])

    def test_no_book_ahead_of_it(self):
        for line in LINES:
            for at, asked in with_tabs_and_feeds(line):
                desk = Desk()
                due = self.due_of(line, at) if line == OPEN else NoBook
                self.assertIs(answer_of(desk.say, asked), due, looks(asked))
                self.assertIs(answer_of(desk.say, "claims"), NoBook)

    def test_no_line_ahead_of_it(self):
        for desk in (Desk(), parted_desk()):
            for asked in ("land 1\n 0", "land  1\n", "land 1\n ", " land 1\n", "lay 0\t 0", "lay 0\t0 1", "part \n",
                          "claims \t", "mead 5,-1 0\n1", "mead 5,-1\n0 1", "mead 5,-1 0 1 \n", "x 1\n"):
                self.assertIs(answer_of(desk.say, asked), NoLine, looks(asked))

    def test_no_text_ahead_of_what_the_book_refuses(self):
        desk = parted_desk()
        for asked in ("lay 9 0 1\n", "lay 9\t 0 1", "deny 9 9 9\n", "merge 0 \t0", "swap 9 9\n", "land 9\n",
                      "bounds \t9", "share 9\t", "houses 100 0 0 0 0 0 0 0\n", "mead 5,-1 1000\n 1", "mead 5,-1 \t1 0",
                      "mead 5,-1\n 1 x", "mead 5,-1 1\n 1\n", "mead 5\t,-1 1 1\t"):
            self.assertIs(answer_of(desk.say, asked), NoText, looks(asked))


class Mead(unittest.TestCase):
    def test_a_new_book(self):
        desk = Desk()
        self.assertEqual(looks(desk.say(OPEN)), "'ok'")
        self.assertEqual([desk.say(line) for line in ("claims", "parting", "lack", "land 0", "bounds 3")],
                         ["none", "none", "none", "none", "0"])
        self.assertIs(answer_of(desk.say, "undo"), NoUndo)

    def test_a_new_mead_forgets_all(self):
        desk = parted_desk()
        self.assertEqual(desk.say("mead 5,-1 0 7"), "ok")
        self.assertEqual(told_by(desk), told_by(desk_with("mead 5,-1 0 7")))
        self.assertIs(answer_of(desk.say, "undo"), NoUndo)
        self.assertEqual(desk.say("lay 2 0 1"), "0")
        self.assertEqual(desk.say("part"), "0")
        self.assertEqual(desk.say("parting"), "2")

    def test_the_same_mead_again_forgets_all_too(self):
        desk = parted_desk()
        desk.say(OPEN)
        self.assertEqual(told_by(desk), told_by(desk_with(OPEN)))
        self.assertIs(answer_of(desk.say, "undo"), NoUndo)

    def test_all_houses_at_the_first_place(self):
        desk = desk_with(OPEN, "houses 0 5 0 0 0 0 0 2", OPEN, "lay 0 0 1", "lay 1 0 1", "near")
        self.assertEqual(desk.say("parting"), "0 0 1 1 1 1")

    def test_each_house_at_the_first_place(self):
        # In these, somebody who lived one row or column off would have another land.
        apart = ((-2, -2, -2, 1), (1, -1, -1, -1))
        for mead in (ROW[0], ((-1, -1, -1, -1), (1, -2, -2, 1)), ((-2, 1), (1, -1)), apart):
            for one, other in permutations(range(4), 2):
                desk = desk_with(f"mead {shown(mead)} 999 1,1", f"lay {one} 0 1", f"lay {other} 1 1")
                book = Book(mead, (1, 1), 999, ((0, 0),) * 4)
                book.lay((one, 0, 1))
                book.lay((other, 1, 1))
                for deed, line in ((book.near, "near"), (book.part, "part"), (lambda: book.swap(one, other), "")):
                    line = line or f"swap {one} {other}"
                    self.assertEqual(str(answer_of(deed)), str(answer_of(desk.say, line)), (mead, one, other, line))
                    told = " ".join(map(str, book.parting_now() or ())) or "none"
                    self.assertEqual(desk.say("parting"), told, (mead, one, other, line))

    def test_no_text_of_the_first_word_that_is_none(self):
        for desk in (Desk(), parted_desk()):
            for mead in ("x", "5,-3", "1,2/3", "-1", "05", "5,", "5;1", "100"):
                for odd in ("2", "x", "1000"):
                    for custom in ("1", "0", "x"):
                        self.assertIs(answer_of(desk.say, f"mead {mead} {odd} {custom}"), NoText, (mead, odd, custom))
            for odd in NO_NUMBERS:
                for custom in ("1", "0", "x", "1,1,1,1,1,1,1"):
                    self.assertIs(answer_of(desk.say, f"mead 5,-1 {odd} {custom}"), NoText, (odd, custom))

    def test_no_custom_behind_no_text(self):
        for desk in (Desk(), parted_desk()):
            for custom in NO_NUMBERS[:7] + ("0", "101", "1,0", "1,101", "-1", "1,1,1,1,1,1,1", ",", "1,", ",1", "1,,1",
                                            "1,01", "1;1", "1/1", "1,x", "99999", "1,100000"):
                for odd in ("0", "999", "1000", "-1", "99999"):
                    self.assertIs(answer_of(desk.say, f"mead 5,-1 {odd} {custom}"), NoCustom, (odd, custom))

    def test_no_odd(self):
        for desk in (Desk(), parted_desk()):
            for odd in ("-1", "1000", "99999", "-99999"):
                self.assertIs(answer_of(desk.say, f"mead 5,-1 {odd} 1"), NoOdd, odd)

    def test_what_is_refused_leaves_the_book(self):
        desk = parted_desk()
        ahead = told_by(desk)
        for line in ("mead 5,-3 2 1", "mead 5,-1 x 1", "mead 5,-1 2 0", "mead 5,-1 1000 1", "mead 5 2"):
            self.assertTrue(issubclass(answer_of(desk.say, line), MeadError))
            self.assertEqual(told_by(desk), ahead)
        self.assertEqual(desk.say("undo"), "ok")

    def test_the_borders_of_odd_and_custom(self):
        for odd in ("0", "999"):
            for custom in ("1", "100", "1,100,50,3,2,1"):
                self.assertEqual(Desk().say(f"mead 5,-1 {odd} {custom}"), "ok")


class Houses(unittest.TestCase):
    def test_forgets_the_claims_and_what_can_be_undone(self):
        desk = desk_with(OPEN, "lay 0 0 1", "lay 1 0 1", "part")
        self.assertEqual(looks(desk.say("houses 0 5 0 0 0 0 0 2")), "'ok'")
        self.assertEqual(told_by(desk), told_by(desk_with(OPEN)))
        self.assertIs(answer_of(desk.say, "undo"), NoUndo)

    def test_the_same_mead_odd_and_custom(self):
        desk = desk_with(f"mead {LANE} 2 3,1", "houses 0 5 0 0 0 0 0 2", "lay 0 0 1", "lay 1 1 1")
        self.assertEqual(desk.say("share 0"), "3/4")
        self.assertEqual(desk.say("part"), "1")
        self.assertEqual(desk.say("parting"), "0 0 0 0 0 1")
        self.assertIs(answer_of(desk.say, "lay 0 2 1"), NoClaims)

    def test_these_four_places(self):
        # Who lives at the right end has the land there, whichever of the four that is.
        for right, left in ((0, 1), (1, 0), (2, 3), (3, 2), (0, 3), (3, 0)):
            places = ["0 0"] * 4
            places[right] = "0 5"
            desk = desk_with(OPEN, "houses " + " ".join(places), f"lay {right} 0 1", f"lay {left} 0 1", "near")
            self.assertIn("0,5", desk.say(f"land {right}").split(" "))
            self.assertIn("0,0", desk.say(f"land {left}").split(" "))
        # Rows ahead of columns: (-5, 0) is nearer to the first cell, (0, 5) lies on the last one.
        desk = desk_with(OPEN, "houses -5 0 0 5 0 0 0 0", "lay 0 0 1", "lay 1 0 1", "near")
        self.assertEqual(desk.say("parting"), "0 0 0 0 1 1")
        desk = desk_with(OPEN, "houses 0 5 -5 0 0 0 0 0", "lay 0 0 1", "lay 1 0 1", "near")
        self.assertEqual(desk.say("parting"), "1 1 0 0 0 0")

    def test_the_borders(self):
        desk = desk_with(OPEN)
        self.assertEqual(desk.say("houses -99 -99 99 99 -99 99 99 -99"), "ok")
        for at in range(8):
            for number in ("100", "-100", "99999"):
                words = ["0"] * 8
                words[at] = number
                self.assertIs(answer_of(desk.say, "houses " + " ".join(words)), NoHouses)

    def test_no_text(self):
        desk = parted_desk()
        ahead = told_by(desk)
        for at in range(8):
            for number in NO_NUMBERS:
                words = ["100"] * 8
                words[at] = number
                self.assertIs(answer_of(desk.say, "houses " + " ".join(words)), NoText)
        self.assertEqual(told_by(desk), ahead)


class Deeds(unittest.TestCase):
    def test_the_number_told(self):
        desk = desk_with(OPEN, "houses 0 5 0 0 0 0 0 2")
        for line, told in (
            ("lay 0 0 1", "0"), ("lay 1 0 1", "0"), ("part", "1"), ("swap 0 1", "0"), ("near", "2"), ("lay 3 1 1", "1"),
            ("merge 3 0", "1"), ("deny 1 0 1", "1"), ("deny 3 0 1", "0"), ("deny 3 1 1", "0"),
        ):
            self.assertEqual(looks(desk.say(line)), looks(told), line)
        for _ in range(10):
            self.assertEqual(looks(desk.say("undo")), "'ok'")
        self.assertIs(answer_of(desk.say, "undo"), NoUndo)

    def test_refused_as_the_book_refuses(self):
        desk = parted_desk()
        ahead = told_by(desk)
        for line, due in (
            ("lay 4 0 1", NoClaim), ("lay -1 0 1", NoClaim), ("lay 0 6 1", NoClaim), ("lay 0 0 21", NoClaim),
            ("lay 0 0 0", NoClaim), ("lay 0 3 1", NoClaims), ("lay 0 0 2", There), ("deny 0 0 0", NoClaim),
            ("deny 0 0 2", Missing), ("deny 2 0 1", Missing), ("merge 0 2", NoHolder), ("merge 0 0", NoHolder),
            ("merge 99999 0", NoHolder), ("swap 0 2", NoHolder), ("swap 1 1", NoHolder), ("land 4", NoHolder),
            ("land -1", NoHolder), ("bounds 4", NoHolder), ("bounds -1", NoHolder), ("share 2", NoHolder),
            ("share -1", NoHolder), ("share 99999", NoHolder),
        ):
            self.assertIs(answer_of(desk.say, line), due, line)
            self.assertEqual(told_by(desk), ahead)
        desk.say("swap 0 1")
        self.assertIs(answer_of(desk.say, "swap 0 1"), NoWill)
        for line in ("part", "near", "swap 0 1"):
            self.assertIs(answer_of(desk_with(OPEN).say, line), NoParting)
        self.assertIs(answer_of(desk_with(OPEN).say, "merge 0 1"), NoHolder)
        self.assertIs(answer_of(desk_with(OPEN).say, "deny 0 0 1"), Missing)

    def test_too_many_with_its_numbers(self):
        desk = desk_with(OPEN, *[f"lay {holder} {sort} 20" for holder in range(4) for sort in range(3)])
        with self.assertRaises(TooMany) as raised:
            desk.say("merge 0 1")
        self.assertEqual((raised.exception.many, raised.exception.most), (40, 20))
        desk = desk_with("mead 5,-1 0 1,1,1,1", *[f"lay {holder} {sort} 1" for holder in range(4) for sort in range(3)])
        with self.assertRaises(TooMany) as raised:
            desk.say("lay 0 3 1")
        self.assertEqual((raised.exception.many, raised.exception.most), (13, 12))

    def test_no_text_of_what_is_no_number(self):
        desk = parted_desk()
        ahead = told_by(desk)
        for line in ("lay 0 0 1", "deny 0 0 1", "merge 0 1", "swap 0 1", "land 0", "bounds 0", "share 0"):
            words = line.split(" ")
            for at in range(1, len(words)):
                for number in NO_NUMBERS:
                    for other in ("9", "0"):
                        asked = [words[0]] + [number if k == at else other for k in range(1, len(words))]
                        self.assertIs(answer_of(desk.say, " ".join(asked)), NoText, asked)
        self.assertEqual(told_by(desk), ahead)

    def test_what_is_refused_is_no_deed(self):
        desk = desk_with(OPEN, "lay 0 0 1")
        for line in ("lay 0 0 1", "lay x 0 1", "lay", "merge 0 1", "swap 0 1", "deny 1 1 1"):
            self.assertTrue(issubclass(answer_of(desk.say, line), MeadError))
        self.assertEqual(desk.say("undo"), "ok")
        self.assertEqual(desk.say("claims"), "none")


class Questions(unittest.TestCase):
    def test_of_a_parted_mead(self):
        desk = parted_desk()
        for line, told in (
            ("claims", "0,0,1;1,0,1"), ("parting", "0 0 0 0 1 1"), ("land 0", "0,0 0,1 0,2 0,3"), ("land 1", "0,4 0,5"),
            ("land 2", "none"), ("land 3", "none"), ("bounds 0", "10"), ("bounds 1", "6"), ("bounds 2", "0"),
            ("bounds 3", "0"), ("share 0", "1/2"), ("share 1", "1/2"), ("lack", "none"),
        ):
            self.assertEqual(looks(desk.say(line)), looks(told), line)
            self.assertEqual(looks(desk.say(line)), looks(told), line)

    def test_of_no_claims(self):
        desk = desk_with(OPEN)
        for line in ("claims", "parting", "land 0", "land 3", "bounds 0", "lack"):
            told = "0" if line == "bounds 0" else "none"
            self.assertEqual(looks(desk.say(line)), looks(told), line)
        for who in range(4):
            self.assertIs(answer_of(desk.say, f"share {who}"), NoHolder)

    def test_share(self):
        desk = desk_with("mead 5,-1 0 3,5", "lay 0 0 5", "lay 1 1 2", "lay 2 1 1")
        self.assertEqual([desk.say(f"share {who}") for who in range(3)], ["1/2", "1/3", "1/6"])
        self.assertIs(answer_of(desk.say, "share 3"), NoHolder)
        self.assertEqual(desk_with("mead 5,-1 0 3,5", "lay 0 0 5").say("share 0"), "1/1")

    def test_lack(self):
        desk = desk_with("mead 3,-1 2 1", "lay 1 0 1", "lay 3 0 1")
        self.assertEqual(looks(desk.say("lack")), "'1 3'")
        self.assertEqual(desk_with("mead 3,-2 2 1", "lay 2 0 1").say("lack"), "2")

    def test_bounds_of_a_land_with_a_hole(self):
        desk = desk_with("mead 1,1,1/1,-1,1/1,1,1 0 1", "lay 0 0 1", "part")
        self.assertEqual(desk.say("bounds 0"), "16")

    def test_the_same_answer_again(self):
        desk = parted_desk()
        ahead = told_by(desk)
        self.assertEqual(told_by(desk), ahead)


def shown(mead):
    return "/".join(",".join(map(str, row)) for row in mead)


class AgainstABook(unittest.TestCase):
    def told_by_book(self, book, line):
        """What a book tells to a line, written as the document says."""
        word, *behind = line.split(" ")
        numbers = [int(number) for number in behind]
        if word in ("lay", "deny"):
            return str(getattr(book, word)(tuple(numbers)))
        if word in ("merge", "part", "near", "swap"):
            return str(getattr(book, word)(*numbers))
        if word == "undo":
            return "ok" if book.undo() is None else ""
        if word == "claims":
            return ";".join(",".join(map(str, claim)) for claim in book.claims_now()) or "none"
        if word == "parting":
            return " ".join(map(str, book.parting_now() or ())) or "none"
        if word == "land":
            return " ".join(f"{row},{column}" for row, column in book.land_now(*numbers)) or "none"
        if word == "bounds":
            return str(steps_round(book.mead, book.land_now(*numbers)))
        if word == "share":
            if book.plea_now() is None:
                raise NoHolder
            return "{}/{}".format(*share_of(book.plea_now()[1], book.claims_now(), *numbers))
        return " ".join(map(str, (book.lack_now() or [()])[0])) or "none"

    def some_line(self, chance, book):
        word = chance.choice("lay lay lay lay deny merge part part near swap swap undo".split()
                             + "claims parting land bounds share lack".split())
        if word == "lay":
            return f"lay {chance.randrange(5)} {chance.randrange(4)} {chance.choice((1, 1, 2, 20, 21))}"
        if word == "deny":
            claim = chance.choice(book.claims_now() + ((0, 0, 1),))
            return "deny {} {} {}".format(*claim)
        if word in ("merge", "swap"):
            return f"{word} {chance.randrange(4)} {chance.randrange(4)}"
        if word in ("land", "bounds", "share"):
            return f"{word} {chance.randrange(-1, 5)}"
        return word

    def test_many_lines(self):
        seen = {}
        for seed in range(20):
            chance = random.Random(seed)
            mead = chance.choice((
                ROW[0], STRIPS, TEN, ((1, 1, 1), (-1, -1, -1), (1, 1, 1)), ((-1, -1), (2, 3), (5, 7), (-1, -1)),
            ))
            odd, custom = chance.choice((0, 2, 5, 9, 999)), chance.choice(((1, 1, 1), (3, 5), (20, 1, 7)))
            houses = tuple((chance.randrange(-2, 5), chance.randrange(-2, 7)) for _ in range(4))
            desk, book = Desk(), Book(mead, custom, odd, houses)
            desk.say(f"mead {shown(mead)} {odd} {shown((custom,))}")
            desk.say("houses " + " ".join(f"{row} {column}" for row, column in houses))
            for _ in range(60):
                line = self.some_line(chance, book)
                told = answer_of(desk.say, line)
                self.assertEqual(looks(told), looks(answer_of(self.told_by_book, book, line)), (seed, line))
                seen.setdefault(line.split(" ")[0], set()).add(looks(told))
        # Each word was answered in more than one way.
        self.assertEqual([word for word in seen if len(seen[word]) < 2], [])
        self.assertEqual(len(seen), 13)


if __name__ == "__main__":
    unittest.main()

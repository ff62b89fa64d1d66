"""A desk: it keeps a book, is told lines, and answers with texts."""

from meadshares.book import Book
from meadshares.claims import share_of
from meadshares.errors import NoBook, NoCustom, NoHolder, NoLine
from meadshares.texts import is_written_number, read_mead, read_number, shown_claims, shown_numbers
from meadshares.walks import steps_round

# How many words stand behind the first one of each line.
WORDS_BEHIND = {
    "mead": 3, "houses": 8, "lay": 3, "deny": 3, "merge": 2, "part": 0, "near": 0, "swap": 2, "undo": 0,
    "claims": 0, "parting": 0, "land": 1, "bounds": 1, "share": 1, "lack": 0,
}
FIRST_HOUSES = ((0, 0), (0, 0), (0, 0), (0, 0))


def words_of(line):
    """The words of the line, refused where it is none."""
    if not isinstance(line, str):
        raise NoLine("no text of words with blanks between them")
    # The blank alone stands between words: a tab or a line feed is a sign of the word that it stands in.
    words = line.split(" ")
    if "" in words or words[0] not in WORDS_BEHIND or len(words) != WORDS_BEHIND[words[0]] + 1:
        raise NoLine("no such line")
    return words


def read_custom(text):
    """The numbers that the text writes for a custom."""
    words = text.split(",")
    if not all([is_written_number(word) for word in words]):
        raise NoCustom("no custom as it is written")
    return tuple([read_number(word) for word in words])


def book_of_mead(words):
    """The new book of which the words behind `mead` tell."""
    mead = read_mead(words[0])
    odd = read_number(words[1])
    return Book(mead, read_custom(words[2]), odd, FIRST_HOUSES)


def book_with_houses(book, numbers):
    """A new book of the same mead, odd and custom, with the houses at these rows and columns."""
    houses = tuple([tuple(numbers[at:at + 2]) for at in range(0, len(numbers), 2)])
    return Book(book.mead, book.custom, book.odd, houses)


def with_blanks(words):
    """The words with a blank between each two, `none` of none."""
    return " ".join(words) if words != [] else "none"


def say_lay(book, numbers):
    """What is answered to `lay`."""
    return str(book.lay(tuple(numbers)))


def say_deny(book, numbers):
    """What is answered to `deny`."""
    return str(book.deny(tuple(numbers)))


def say_merge(book, numbers):
    """What is answered to `merge`."""
    return str(book.merge(numbers[0], numbers[1]))


def say_part(book, numbers):
    """What is answered to `part`."""
    return str(book.part())


def say_near(book, numbers):
    """What is answered to `near`."""
    return str(book.near())


def say_swap(book, numbers):
    """What is answered to `swap`."""
    return str(book.swap(numbers[0], numbers[1]))


def say_undo(book, numbers):
    """What is answered to `undo`."""
    book.undo()
    return "ok"


def say_claims(book, numbers):
    """What is answered to `claims`."""
    claims = book.claims_now()
    return "none" if claims == () else shown_claims(claims)


def say_parting(book, numbers):
    """What is answered to `parting`."""
    parting = book.parting_now()
    return "none" if parting is None else with_blanks([str(number) for number in parting])


def say_land(book, numbers):
    """What is answered to `land`."""
    return with_blanks([shown_numbers(place) for place in book.land_now(numbers[0])])


def say_bounds(book, numbers):
    """What is answered to `bounds`."""
    return str(steps_round(book.mead, book.land_now(numbers[0])))


def say_share(book, numbers):
    """What is answered to `share`."""
    claims = book.claims_now()
    if claims == ():
        raise NoHolder("there are no claims")
    top, bottom = share_of(book.custom, claims, numbers[0])
    return f"{top}/{bottom}"


def say_lack(book, numbers):
    """What is answered to `lack`."""
    lack = book.lack_now()
    return "none" if lack is None else with_blanks([str(holder) for holder in lack[0]])


ANSWERS = {
    "lay": say_lay, "deny": say_deny, "merge": say_merge, "part": say_part, "near": say_near, "swap": say_swap,
    "undo": say_undo, "claims": say_claims, "parting": say_parting, "land": say_land, "bounds": say_bounds,
    "share": say_share, "lack": say_lack,
}


class Desk:
    """A desk, at first with no book."""

    def __init__(self):
        self.book = None

    def say(self, line):
        """What is answered to the line."""
        word, *behind = words_of(line)
        if word == "mead":
            self.book = book_of_mead(behind)
            return "ok"
        if self.book is None:
            raise NoBook("there is no book yet")
        numbers = [read_number(text) for text in behind]
        if word == "houses":
            self.book = book_with_houses(self.book, numbers)
            return "ok"
        answer = ANSWERS[word]
        return answer(self.book, numbers)

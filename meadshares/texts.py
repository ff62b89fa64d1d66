"""Texts: meads and claims as they are written, and read again."""

from meadshares.claims import are_claims, check_claims
from meadshares.errors import NoText
from meadshares.meads import check_mead, is_mead

FIGURES = "0123456789"
MOST_FIGURES = 5


def is_written_number(text):
    """Whether the text writes a number."""
    figures = text[1:] if text.startswith("-") else text
    if not 1 <= len(figures) <= MOST_FIGURES or not all([sign in FIGURES for sign in figures]):
        return False
    return text == "0" or not figures.startswith("0")


def read_number(text):
    """The number that the text writes."""
    if not is_written_number(text):
        raise NoText("no number as it is written")
    return int(text)


def rows_read(text, mark):
    """The tuples of numbers that the text writes, the mark between each two, a comma between each two numbers."""
    if not isinstance(text, str):
        raise NoText("no text")
    return tuple([tuple([read_number(word) for word in row.split(",")]) for row in text.split(mark)])


def shown_numbers(numbers):
    """The numbers as they are written, with a comma between each two."""
    return ",".join([str(number) for number in numbers])


def shown_mead(mead):
    """The mead as it is written."""
    check_mead(mead)
    return "/".join([shown_numbers(row) for row in mead])


def shown_claims(claims):
    """The claims as they are written."""
    check_claims(claims)
    return ";".join([shown_numbers(claim) for claim in claims])


def read_mead(text):
    """The mead that the text writes."""
    mead = rows_read(text, "/")
    if not is_mead(mead):
        raise NoText("no mead as it is written")
    return mead


def read_claims(text):
    """The claims that the text writes."""
    claims = rows_read(text, ";")
    if not are_claims(claims):
        raise NoText("no claims as they are written")
    return claims

"""Journals: the changes of a book as a text, a row for each, which is read as far as its rows are good."""

from surecounts.books import Book, redo
from surecounts.errors import Contradictory, InvalidFact, InvalidNumber, InvalidText, MissingRows
from surecounts.words import read_number, read_numbers, read_where, write_where

DIVISOR = 9973


def number_of(text):
    """The number of a row, by the text ahead of its `#`."""
    return sum([at * ord(sign) for at, sign in enumerate(text, start=1)]) % DIVISOR


def write_change(change):
    """The row of a change, without its number."""
    if change[0] == "recount":
        return f"recount {write_where(change[1])} {change[2]} "
    return f"{change[0]} {change[1]} {change[2]} {change[3]} "


def write_row(change):
    """The row of a change, and the newline behind it."""
    text = write_change(change)
    return text + "#" + str(number_of(text)) + "\n"


def write_journal(book):
    """The text of the history of a book."""
    return "".join([write_row(change) for change in book.history()])


def read_change(words):
    """The change that a list of words writes, or None; whether a book takes it is left to the caller."""
    if len(words) == 4 and words[0] in ("insert", "remove"):
        numbers = read_numbers(words[1:])
        return None if numbers is None else (words[0], *numbers)
    if words[:1] == ["recount"]:
        where = read_where(words[1:-1])
        number = read_number(words[-1])
        return None if where is None or number is None else ("recount", where, number)
    return None


def read_row(row):
    """The change that a row writes, and whether its number is right; or None if it is not written so."""
    words = row.split(" ")
    last = words[-1]
    change = read_change(words[:-1])
    number = read_number(last[1:])
    if change is None or number is None or not last.startswith("#"):
        return None
    return (change, number == number_of(row[:-len(last)]))


def refused(book, row):
    """Does the change of a row, or tells by a word why it is not good."""
    found = read_row(row)
    if found is None:
        return "form"
    change, right = found
    if not right:
        return "sum"
    try:
        redo(book, change)
    except (InvalidNumber, InvalidFact, MissingRows, Contradictory):
        return "change"
    return None


def read_journal(facts, text):
    """The book behind the good rows of a text, from the first one on, their number, and a word for why they end."""
    book = Book(facts)
    if not isinstance(text, str):
        raise InvalidText(None)
    rows = text.split("\n")
    for many, row in enumerate(rows[:-1]):
        why = refused(book, row)
        if why is not None:
            return (book, many, why)
    return (book, len(rows) - 1, "end" if rows[-1] == "" else "torn")

"""Drawings of books of two unknowns: a letter for each full row."""

from sidebooks.balances import full_rows_of
from sidebooks.basics import is_whole, sign
from sidebooks.books import check_book
from sidebooks.errors import InvalidBook, InvalidNumber

# At most 22 full rows come for six questions; the great letters, and a sign for all more, are for greater books.
LETTERS = "abcdefghijklmnopqrstuvwxyzABCDEFGHIJKLMNOPQRSTUVWXYZ"
NO_LETTER = "?"


def drawn(book, left, low, wide, high, size):
    check_book(book)
    if book[0] != 2:
        raise InvalidBook(book)
    _check_frame(left, low, wide, high, size)
    letters = {row: LETTERS[place:place + 1] or NO_LETTER for place, row in enumerate(full_rows_of(book))}
    # All is taken times the size, so that it stays whole.
    across = [left * size + i for i in range(wide)]
    up = [low * size + j for j in range(high)]
    return ["".join([_sign_at(book, letters, x, y, size) for x in across]) for y in up[::-1]]


def _check_frame(left, low, wide, high, size):
    for told in (left, low):
        if not is_whole(told):
            raise InvalidNumber(told)
    for told in (wide, high):
        if not is_whole(told) or told < 0:
            raise InvalidNumber(told)
    if not is_whole(size) or size < 1:
        raise InvalidNumber(size)


def _sign_at(book, letters, x, y, size):
    """What is drawn at the point (x / size, y / size)."""
    row = tuple([sign(a * x + b * y - wall * size) for (a, b), wall in book[1]])
    return "." if 0 in row else letters[row]

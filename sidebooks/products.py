"""Rows put together."""

from sidebooks.balances import ANSWERS, bars, rows_by
from sidebooks.basics import check_row, parts_of
from sidebooks.books import check_book
from sidebooks.errors import InvalidRow
from sidebooks.points import put_ahead
from sidebooks.trials import check_comes


def ahead(book, one, other):
    _check_rows(book, (one, other))
    return put_ahead(one, other)


def ahead_all(book, some):
    check_book(book)
    if not isinstance(some, (list, tuple)):
        raise InvalidRow(some)
    _check_rows(book, some)
    gathered = (0,) * len(book[1])
    for row in some:
        gathered = put_ahead(gathered, row)
    if not some:
        check_comes(book, gathered)
    return gathered


def parts(book, one, other):
    _check_rows(book, (one, other))
    return parts_of(one, other)


def is_under(book, one, other):
    _check_rows(book, (one, other))
    return put_ahead(one, other) == other


def above(book, row):
    _check_rows(book, (row,))
    return rows_by(bars(book), [ANSWERS if answer == 0 else (answer,) for answer in row])


def _check_rows(book, some):
    """All of them are looked at as rows before any is asked whether it comes."""
    check_book(book)
    for row in some:
        check_row(row, len(book[1]))
    for row in some:
        check_comes(book, row)

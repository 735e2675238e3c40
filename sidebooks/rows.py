"""All rows of a book that come."""

from sidebooks.balances import ANSWERS, all_rows_of, balances_of, bars, code_of, coded_rows, codes_of, comes_by
from sidebooks.balances import exchanged_code, full_rows_of
from sidebooks.basics import check_row, check_wish, rank_of, with_answer, zeros_of
from sidebooks.books import all_sides, check_book
from sidebooks.errors import NotFull
from sidebooks.trials import check_comes


def rows(book):
    check_book(book)
    return all_rows_of(book)


def full_rows(book):
    check_book(book)
    return full_rows_of(book)


def held_rows(book):
    check_book(book)
    # Below this rank the points of each row go on along a line that no question tells apart.
    if rank_of(all_sides(book)) < book[0]:
        return []
    senses = _senses(book)
    found = coded_rows(bars(book), [ANSWERS] * len(book[1]))
    return [row for row, code in found if _has_no_way_out(senses, code)]


def is_held(book, row):
    check_book(book)
    check_row(row, len(book[1]))
    check_comes(book, row)
    return rank_of(all_sides(book)) == book[0] and _has_no_way_out(_senses(book), code_of(row))


def noughts(book):
    check_book(book)
    counts = [0] * (book[0] + 1)
    left = {}
    for row in all_rows_of(book):
        zeros = zeros_of(row)
        if zeros not in left:
            left[zeros] = book[0] - rank_of([book[1][index][0] for index in zeros])
        counts[left[zeros]] += 1
    return tuple(counts)


def walls(book, row):
    check_book(book)
    check_row(row, len(book[1]))
    check_comes(book, row)
    if 0 in row:
        raise NotFull(row)
    known, code = bars(book), code_of(row)
    return tuple([index for index in range(len(row)) if comes_by(known, exchanged_code(code, index))])


def first_row(book, wish):
    check_book(book)
    check_wish(wish, len(book[1]))
    known = bars(book)
    if not comes_by(known, code_of(wish)):
        return None
    row = wish
    for index, wished in enumerate(wish):
        if wished is None:
            tried = [with_answer(row, index, answer) for answer in ANSWERS]
            row = [longer for longer in tried if comes_by(known, code_of(longer))][0]
    return row


def _senses(book):
    """For each balance the codes of the answers with its factors, of those against them, and of both."""
    found = []
    for indexes, factors, _ in balances_of(book):
        up, down = codes_of(indexes, factors)
        found.append((up, down, up + down))
    return found


def _has_no_way_out(senses, code):
    """True if a row of a book of full rank is held.

    On a way that goes on for ever within the row, what the sides come to goes from
    the wall or keeps, and is 0 still where it was. What it gains for the questions
    of a balance, times their factors, sums to 0; so nothing gains where the factors
    all go with the answers. Where nothing gains at all, the way is of no length; and
    a question with an answer but 0 that is in no such balance gains on some way.
    """
    closed = 1
    for up, down, both in senses:
        if code & up == 0 or code & down == 0:
            closed = closed | both
    return code & closed == code

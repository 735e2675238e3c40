"""All rows of a book that come."""

from sidebooks.balances import ANSWERS, balances, bars, check_comes, comes_by, exchanged, rows_by
from sidebooks.balances import with_answer, zeros_of
from sidebooks.basics import check_row, check_wish, rank_of
from sidebooks.books import all_sides, check_book
from sidebooks.errors import NotFull


def rows(book):
    check_book(book)
    return rows_by(bars(book), len(book[1]), ANSWERS)


def full_rows(book):
    check_book(book)
    return rows_by(bars(book), len(book[1]), (-1, 1))


def held_rows(book):
    check_book(book)
    if rank_of(all_sides(book)) < book[0]:
        return []
    known = balances(all_sides(book))
    return [row for row in rows(book) if _has_no_way_out(known, row)]


def is_held(book, row):
    check_book(book)
    check_row(row, len(book[1]))
    check_comes(bars(book), row)
    sides = all_sides(book)
    # Below this rank the points of each row go on along a line that no question tells apart.
    return rank_of(sides) == book[0] and _has_no_way_out(balances(sides), row)


def noughts(book):
    found = rows(book)
    counts = [0] * (book[0] + 1)
    left = {}
    for row in found:
        zeros = zeros_of(row)
        if zeros not in left:
            left[zeros] = book[0] - rank_of([book[1][index][0] for index in zeros])
        counts[left[zeros]] += 1
    return tuple(counts)


def walls(book, row):
    check_book(book)
    check_row(row, len(book[1]))
    known = bars(book)
    check_comes(known, row)
    if 0 in row:
        raise NotFull(row)
    return tuple([index for index in range(len(row)) if comes_by(known, exchanged(row, index))])


def first_row(book, wish):
    check_book(book)
    check_wish(wish, len(book[1]))
    known = bars(book)
    if not comes_by(known, wish):
        return None
    row = wish
    for index, wished in enumerate(wish):
        if wished is None:
            tried = [with_answer(row, index, answer) for answer in ANSWERS]
            row = [longer for longer in tried if comes_by(known, longer)][0]
    return row


def _has_no_way_out(known, row):
    """True if a row of a book of full rank is held; the balances of its sides are known.

    On a way that goes on for ever within the row, what the sides come to goes from
    the wall or keeps, and is 0 still where it was. What it gains for the questions
    of a balance, times their factors, sums to 0; so nothing gains where the factors
    all go with the answers. Where nothing gains at all, the way is of no length; and
    a question with an answer but 0 that is in no such balance gains on some way.
    """
    closed = {}
    for indexes, factors in known:
        senses = [row[index] * factor for index, factor in zip(indexes, factors)]
        if min(senses) >= 0 or max(senses) <= 0:
            for index in indexes:
                closed[index] = True
    return all(answer == 0 or index in closed for index, answer in enumerate(row))

"""Roads from full rows to full rows, one answer exchanged at each step."""

from sidebooks.balances import bars, check_comes, comes_by, exchanged, parts_of, rows_by
from sidebooks.basics import are_indexes, check_row
from sidebooks.books import check_book
from sidebooks.errors import InvalidIndex, NotFull


def steps(book, one, other):
    _check_ends(book, one, other)
    return len(parts_of(one, other))


def next_steps(book, one, other):
    known = _check_ends(book, one, other)
    return _nearer(known, one, other)


def roads(book, one, other):
    known = _check_ends(book, one, other)
    found = [((), one)]
    # All least roads are of the same length, so each step keeps them ascending.
    for _ in parts_of(one, other):
        found = [(road + (index,), exchanged(row, index)) for road, row in found
                 for index in _nearer(known, row, other)]
    return [road for road, _ in found]


def how_many_roads(book, one, other):
    known = _check_ends(book, one, other)
    ways = {one: 1}
    for _ in parts_of(one, other):
        onward = {}
        for row, many in ways.items():
            for index in _nearer(known, row, other):
                behind = exchanged(row, index)
                onward[behind] = onward.get(behind, 0) + many
        ways = onward
    return ways[other]


def is_road(book, one, other, told):
    known = _check_ends(book, one, other)
    if not are_indexes(told, len(one)):
        raise InvalidIndex(told)
    row = one
    for index in told:
        row = exchanged(row, index)
        if not comes_by(known, row):
            return False
    return row == other


def farthest(book):
    check_book(book)
    full = rows_by(bars(book), len(book[1]), (-1, 1))
    most, best_one, best_other = 0, full[0], full[0]
    for one in full:
        for other in full:
            found = len(parts_of(one, other))
            if found > most:
                most, best_one, best_other = found, one, other
    return (most, best_one, best_other)


def _check_ends(book, one, other):
    """The bars of the book, if both are full rows that come."""
    check_book(book)
    check_row(one, len(book[1]))
    check_row(other, len(book[1]))
    known = bars(book)
    check_comes(known, one)
    check_comes(known, other)
    if 0 in one:
        raise NotFull(one)
    if 0 in other:
        raise NotFull(other)
    return known


def _nearer(known, row, other):
    """The indexes of the questions with which a least road from a row to another one begins."""
    return tuple([index for index in parts_of(row, other) if comes_by(known, exchanged(row, index))])

"""Roads from full rows to full rows, one answer exchanged at each step."""

from sidebooks.balances import bars, code_of, comes_by, exchanged_code, full_rows_of
from sidebooks.basics import are_indexes, check_row, parts_of
from sidebooks.books import check_book
from sidebooks.errors import InvalidIndex, NotFull
from sidebooks.trials import check_comes


def steps(book, one, other):
    _check_ends(book, one, other)
    return len(parts_of(one, other))


def next_steps(book, one, other):
    _check_ends(book, one, other)
    return _nearer(bars(book), code_of(one), parts_of(one, other))


def roads(book, one, other):
    _check_ends(book, one, other)
    known = bars(book)
    found = [((), code_of(one), parts_of(one, other))]
    # All least roads are of the same length, so each step keeps them ascending.
    for _ in parts_of(one, other):
        found = [(road + (index,), exchanged_code(code, index), _without_item(left, index))
                 for road, code, left in found for index in _nearer(known, code, left)]
    return [road for road, _, _ in found]


def how_many_roads(book, one, other):
    _check_ends(book, one, other)
    known = bars(book)
    # By the code of a row the questions that part it from the other one, and how many roads lead to it.
    ways = {code_of(one): (parts_of(one, other), 1)}
    for _ in parts_of(one, other):
        onward = {}
        for code, (left, many) in ways.items():
            for index in _nearer(known, code, left):
                behind = exchanged_code(code, index)
                fewer, before = onward.get(behind, (_without_item(left, index), 0))
                onward[behind] = (fewer, before + many)
        ways = onward
    return ways[code_of(other)][1]


def is_road(book, one, other, told):
    _check_ends(book, one, other)
    if not are_indexes(told, len(one)):
        raise InvalidIndex(told)
    known = bars(book)
    code = code_of(one)
    for index in told:
        code = exchanged_code(code, index)
        if not comes_by(known, code):
            return False
    return code == code_of(other)


def farthest(book):
    check_book(book)
    full = full_rows_of(book)
    among = {row: True for row in full}
    # A line that runs along no wall meets each of them once, so at its two ends all answers differ.
    for one in full:
        other = tuple([-answer for answer in one])
        if other in among:
            return (len(one), one, other)
    return None


def _check_ends(book, one, other):
    check_book(book)
    check_row(one, len(book[1]))
    check_row(other, len(book[1]))
    check_comes(book, one)
    check_comes(book, other)
    if 0 in one:
        raise NotFull(one)
    if 0 in other:
        raise NotFull(other)


def _nearer(known, code, left):
    """The indexes with which a least road begins from a coded row, when these are left that part it from the end."""
    return tuple([index for index in left if comes_by(known, exchanged_code(code, index))])


def _without_item(indexes, index):
    return tuple([other for other in indexes if other != index])

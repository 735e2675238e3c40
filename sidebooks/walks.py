"""Walks over the full rows of a book: a row is drawn from a lot and put ahead, again and again."""

from math import lcm

from sidebooks.balances import FULL_ANSWERS, bars, code_of, comes_by, rows_by
from sidebooks.basics import check_row, is_less, is_number, is_row_of, is_whole, lowest, minus, plus, times
from sidebooks.books import check_book
from sidebooks.errors import InvalidLot, InvalidNumber, InvalidTape, NeverComes, NoLongRun, NotFull
from sidebooks.flats import sign_numbers
from sidebooks.points import put_ahead


def is_lot(book, told):
    check_book(book)
    return _is_lot_of(told, bars(book), len(book[1]))


def even_lot(book, some):
    check_book(book)
    if not isinstance(some, (list, tuple)) or not _come_once(some, bars(book), len(book[1])):
        raise InvalidLot(some)
    return tuple([(row, (1, len(some))) for row in sorted(some)])


def shares(book, lot):
    _check_lot(book, lot)
    return [(flat, _share_of(lot, flat), abs(number)) for flat, number in sign_numbers(book)]


def table(book, lot):
    known = _check_lot(book, lot)
    full = _full_by(known, book)
    bottom, drawn = _weighed(lot)
    found = []
    for moves in _moves(full, drawn):
        weights = [0] * len(full)
        for place, weight in moves:
            weights[place] += weight
        found.append(_numbers_of(weights, bottom))
    return tuple(found)


def behind(book, lot, row, n):
    known = _check_start(book, lot, row)
    _check_many(n)
    return _behind(_full_by(known, book), lot, row, n)


def long_run(book, lot):
    known = _check_lot(book, lot)
    _check_long_run(book, lot)
    return _long_run_of(_full_by(known, book), lot)


def distance(book, lot, row, n):
    known = _check_start(book, lot, row)
    _check_many(n)
    _check_long_run(book, lot)
    full = _full_by(known, book)
    gathered = (0, 1)
    for here, there in zip(_behind(full, lot, row, n), _long_run_of(full, lot)):
        top, bottom = minus(here, there)
        gathered = plus(gathered, (abs(top), bottom))
    return times(gathered, (1, 2))


def bound(book, lot, n):
    _check_lot(book, lot)
    _check_many(n)
    _check_long_run(book, lot)
    bottom, weights = _weights_at_noughts(book, lot)
    return lowest(sum([_power(weight, n) for weight in weights]), _power(bottom, n))


def enough(book, lot, far):
    _check_lot(book, lot)
    if not is_number(far) or far[0] <= 0:
        raise InvalidNumber(far)
    _check_long_run(book, lot)
    bottom, weights = _weights_at_noughts(book, lot)
    return _first_within(weights, bottom, far)


def led(book, lot, row, tape):
    _check_start(book, lot, row)
    if not isinstance(tape, tuple) or not all(_is_draw(x) for x in tape):
        raise InvalidTape(tape)
    found = []
    here = row
    reached = _reached(lot)
    for number in tape:
        here = put_ahead(_drawn_by(reached, number), here)
        found.append(here)
    return tuple(found)


def _is_lot_of(told, known, many):
    if not isinstance(told, tuple) or not all(_is_chance(item) for item in told):
        return False
    some = [row for row, _ in told]
    if not _come_once(some, known, many) or some != sorted(some):
        return False
    gathered = (0, 1)
    for _, chance in told:
        gathered = plus(gathered, chance)
    return gathered == (1, 1)


def _is_chance(told):
    """True for a pair of anything and a number above 0."""
    return isinstance(told, tuple) and len(told) == 2 and is_number(told[1]) and told[1][0] > 0


def _come_once(some, known, many):
    """True for rows that come, each once, one or more."""
    if not some or not all(is_row_of(row, many) for row in some):
        return False
    return len(set(some)) == len(some) and all([comes_by(known, code_of(row)) for row in some])


def _check_lot(book, lot):
    """The bars of the book, if the lot is one of it."""
    check_book(book)
    known = bars(book)
    if not _is_lot_of(lot, known, len(book[1])):
        raise InvalidLot(lot)
    return known


def _check_start(book, lot, row):
    """The bars of the book, if a walk by the lot can go from the row."""
    known = _check_lot(book, lot)
    check_row(row, len(book[1]))
    if not comes_by(known, code_of(row)):
        raise NeverComes(row)
    if 0 in row:
        raise NotFull(row)
    return known


def _check_many(n):
    if not is_whole(n) or n < 0:
        raise InvalidNumber(n)


def _check_long_run(book, lot):
    for index in range(len(book[1])):
        if all(row[index] == 0 for row, _ in lot):
            raise NoLongRun(index)


def _is_draw(told):
    return is_number(told) and 0 <= told[0] < told[1]


def _full_by(known, book):
    return rows_by(known, [FULL_ANSWERS] * len(book[1]))


def _share_of(lot, flat):
    """The sum of the chances of the rows that have 0 at all questions of a flat."""
    gathered = (0, 1)
    for row, chance in lot:
        if all(row[index] == 0 for index in flat):
            gathered = plus(gathered, chance)
    return gathered


def _weighed(lot):
    """A bottom that all chances can have, and the list of (row, top above that bottom)."""
    bottom = 1
    for _, chance in lot:
        bottom = lcm(bottom, chance[1])
    return (bottom, [(row, top * (bottom // below)) for row, (top, below) in lot])


def _numbers_of(weights, bottom):
    return tuple([lowest(weight, bottom) for weight in weights])


def _moves(full, drawn):
    """For each full row the list of (place of a full row, weight) to which one step leads."""
    places = {row: place for place, row in enumerate(full)}
    return [[(places[put_ahead(ahead, row)], weight) for ahead, weight in drawn] for row in full]


def _behind(full, lot, row, n):
    bottom, drawn = _weighed(lot)
    moves = _moves(full, drawn)
    weights = [1 if other == row else 0 for other in full]
    for _ in range(n):
        onward = [0] * len(full)
        for weight, steps in zip(weights, moves):
            for place, share in steps:
                onward[place] += weight * share
        weights = onward
    return _numbers_of(weights, _power(bottom, n))


def _long_run_of(full, lot):
    """The chances of what all draws, for ever, make together, the first one ahead.

    Behind many steps the last draw is ahead of all; but draws in the other sequence
    have the same chances. A draw that changes nothing can be left out, so each step
    here goes by the chances of those that fill a nought.
    """
    found = {row: (0, 1) for row in full}
    level = {(0,) * len(full[0]): (1, 1)}
    while level:
        onward = {}
        for row, chance in level.items():
            if 0 not in row:
                found[row] = plus(found[row], chance)
                continue
            filled = [(put_ahead(row, drawn), weight) for drawn, weight in lot if put_ahead(row, drawn) != row]
            whole = (0, 1)
            for _, weight in filled:
                whole = plus(whole, weight)
            for longer, weight in filled:
                part = times(times(chance, weight), (whole[1], whole[0]))
                onward[longer] = plus(onward.get(longer, (0, 1)), part)
        level = onward
    return tuple([found[row] for row in full])


def _weights_at_noughts(book, lot):
    """A common bottom, and above it for each question how often drawn rows have 0 there."""
    bottom, drawn = _weighed(lot)
    every = range(len(book[1]))
    return (bottom, [sum([weight for row, weight in drawn if row[index] == 0]) for index in every])


def _power(whole, n):
    """An integer to the power n from 0 on; 0 to the power 0 is 1."""
    gathered = 1
    squared = whole
    left = n
    while left > 0:
        if left & 1:
            gathered = gathered * squared
        left = left >> 1
        squared = squared * squared if left > 0 else squared
    return gathered


def _first_within(weights, bottom, far):
    """The least n from 0 on so that the powers of the weights sum to no more than far times that of the bottom."""
    if _is_within([1] * len(weights), 1, far):
        return 0
    # The sum never grows; so the steps by which it is just not within are found from the greatest on.
    levels = [(1, weights, bottom)]
    while not _is_within(levels[-1][1], levels[-1][2], far):
        size, tops, below = levels[-1]
        levels.append((2 * size, [top * top for top in tops], below * below))
    n, tops, below = 0, [1] * len(weights), 1
    for size, more, lower in reversed(levels):
        longer = [top * other for top, other in zip(tops, more)]
        if not _is_within(longer, below * lower, far):
            n, tops, below = n + size, longer, below * lower
    return n + 1


def _is_within(tops, bottom, far):
    return sum(tops) * far[1] <= far[0] * bottom


def _reached(lot):
    """For each row of a lot (row, the sum of the chances of it and those ahead of it)."""
    found = []
    gathered = (0, 1)
    for row, chance in lot:
        gathered = plus(gathered, chance)
        found.append((row, gathered))
    return found


def _drawn_by(reached, number):
    """The first row whose sum is more than a number below 1; the last sum is 1."""
    place = 0
    while not is_less(number, reached[place][1]):
        place += 1
    return reached[place][0]

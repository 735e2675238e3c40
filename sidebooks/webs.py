"""Webs of things and ties, their books, directions and colourings, and the shelf of all orders."""

from sidebooks.basics import check_index, check_row, is_whole, sign
from sidebooks.errors import HasRound, InvalidNumber, InvalidPair, InvalidWeb, NeverComes, NotFull
from sidebooks.polynomials import polynomial, value
from sidebooks.trials import check_comes


def is_web(told):
    if not isinstance(told, tuple) or len(told) != 2:
        return False
    n, ties = told
    if not is_whole(n) or n < 1 or not isinstance(ties, tuple):
        return False
    if not all(_is_tie(tie, n) for tie in ties):
        return False
    return list(ties) == sorted(set(ties))


def book_of(web):
    _check_web(web)
    return _book_of(web)


def arrows(web, row):
    _check_web(web)
    check_row(row, len(web[1]))
    check_comes(_book_of(web), row)
    if 0 in row:
        raise NotFull(row)
    return tuple([(i, j) if answer < 0 else (j, i) for (i, j), answer in zip(web[1], row)])


def row_of(web, told):
    _check_direction(web, told)
    found = _first_round(web[0], told)
    if found is not None:
        raise HasRound(found)
    return tuple([-1 if arrow == tie else 1 for arrow, tie in zip(told, web[1])])


def rounds(web, told):
    _check_direction(web, told)
    return _first_round(web[0], told)


def colourings(web, k):
    _check_web(web)
    if not is_whole(k) or k < 0:
        raise InvalidNumber(k)
    return value(polynomial(_book_of(web)), k)


def shelf(n):
    _check_things(n)
    return (n, _all_ties(n))


def to_front(n, i):
    _check_things(n)
    check_index(i, n)
    return _row_by([-1 if thing == i else 0 for thing in range(n)])


def order_of(n, row):
    _check_things(n)
    ties = _all_ties(n)
    check_row(row, len(ties))
    # At a point with this row each thing is greater than just so many others.
    places = [0] * n
    for (i, j), answer in zip(ties, row):
        if answer < 0:
            places[j] += 1
        elif answer > 0:
            places[i] += 1
    if _row_by(places) != row:
        raise NeverComes(row)
    return tuple([tuple([thing for thing in range(n) if places[thing] == place]) for place in sorted(set(places))])


def row_of_order(n, order):
    _check_things(n)
    if not _is_order(n, order):
        raise InvalidPair(order)
    places = [0] * n
    for place, equal in enumerate(order):
        for thing in equal:
            places[thing] = place
    return _row_by(places)


def _is_tie(told, n):
    if not isinstance(told, tuple) or len(told) != 2:
        return False
    i, j = told
    return is_whole(i) and is_whole(j) and 0 <= i < j < n


def _is_order(n, told):
    """True for a tuple of ascending tuples, none (), that have the things 0 to n - 1 just once."""
    if not isinstance(told, tuple):
        return False
    things = []
    for equal in told:
        if not isinstance(equal, tuple) or not equal or not all(is_whole(thing) for thing in equal):
            return False
        if list(equal) != sorted(equal):
            return False
        things.extend(equal)
    return sorted(things) == list(range(n))


def _check_web(web):
    if not is_web(web):
        raise InvalidWeb(web)


def _check_things(n):
    if not is_whole(n) or n < 1:
        raise InvalidNumber(n)


def _check_direction(web, told):
    _check_web(web)
    if not isinstance(told, tuple) or len(told) != len(web[1]):
        raise InvalidPair(told)
    if not all(_is_arrow(arrow, tie) for arrow, tie in zip(told, web[1])):
        raise InvalidPair(told)


def _is_arrow(told, tie):
    """True for the two things of a tie, in either sequence."""
    if not isinstance(told, tuple) or len(told) != 2 or not all(is_whole(thing) for thing in told):
        return False
    return told == tie or told == (tie[1], tie[0])


def _book_of(web):
    n, ties = web
    return (n, tuple([(_sides_of(tie, n), 0) for tie in ties]))


def _sides_of(tie, n):
    return tuple([1 if thing == tie[0] else -1 if thing == tie[1] else 0 for thing in range(n)])


def _all_ties(n):
    return tuple([(i, j) for i in range(n) for j in range(i + 1, n)])


def _row_by(places):
    """The row of the shelf at the point whose numbers are these integers."""
    return tuple([sign(places[i] - places[j]) for i, j in _all_ties(len(places))])


def _first_round(n, told):
    """The shortest round of some arrows, of these the least as tuples compare, `None` if there is none."""
    best = None
    for start in range(n):
        # The round begins with its least thing, so only greater ones may come behind it.
        within = [arrow for arrow in told if min(arrow) >= start]
        found = _shortest_round(start, within)
        if found is not None and (best is None or len(found) < len(best)):
            best = found
    return best


def _shortest_round(start, within):
    """The shortest round from a thing, of these the least, along some arrows; `None` if there is none."""
    left = _lengths_to(start, within)
    if start not in left:
        return None
    found = [start]
    for length in range(left[start] - 1, 0, -1):
        # On from here to the least thing from which the way back is just as long as it may be.
        nearer = [head for tail, head in within if tail == found[-1] and head != start and left.get(head) == length]
        found.append(min(nearer))
    return tuple(found)


def _lengths_to(goal, within):
    """For each thing that leads to a goal how many arrows lie on the way at least; for the goal itself one or more."""
    lengths = {}
    heads = {goal: True}
    length = 0
    while heads:
        length += 1
        tails = {}
        for tail, head in within:
            if head in heads and tail not in lengths:
                tails[tail] = True
        for tail in tails:
            lengths[tail] = length
        heads = tails
    return lengths

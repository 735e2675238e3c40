"""Whether a single row or wish comes, tried without asking for all that the book forbids.

The answers 1 and -1 ask that what their questions come to, times the answer, is above
0: that it is no less than a number as small as one likes, but the same for all. What
is beyond this number is the slack, and must not be below 0. A vector tells a slack,
or for the answer 0 what the question comes to: how often it has each unknown, then 1,
then that small number, all of it taken `by` times, so that it is whole.
"""

from sidebooks.errors import NeverComes


def comes_alone(book, wish):
    """True if some point fits a wish."""
    nought, rest = _asked(book, wish)
    by = 1
    while nought:
        taken = nought.pop()
        at = _place_in(taken)
        if at is None:
            # Nothing but the wall is left of the question.
            if taken[-2] != 0:
                return False
            continue
        nought = [_without_unknown(vector, taken, at, by) for vector in nought]
        rest = [_without_unknown(vector, taken, at, by) for vector in rest]
        by = abs(taken[at])
    return _have_room(rest, by)


def check_comes(book, row):
    if not comes_alone(book, row):
        raise NeverComes(row)


def _asked(book, wish):
    """The vectors of the questions with answer 0, and of those with -1 or 1."""
    nought, rest = [], []
    for (sides, wall), wished in zip(book[1], wish):
        if wished == 1:
            rest.append([*sides, -wall, -1])
        elif wished == -1:
            rest.append([-side for side in sides] + [wall, -1])
        elif wished == 0:
            nought.append([*sides, -wall, 0])
    return (nought, rest)


def _place_in(vector):
    """The first unknown that a vector has, `None` if it has none."""
    for at in range(len(vector) - 2):
        if vector[at] != 0:
            return at
    return None


def _freed(vector, taken, at, by):
    """A vector in which the slack of another one stands in the place of an unknown."""
    # Of an unknown the sign is free; it is taken so that the vector keeps its sense.
    pivot, share = (taken[at], vector[at]) if taken[at] > 0 else (-taken[at], -vector[at])
    # All these integers are determinants, which by, the last pivot, divides.
    freed = [(pivot * x - share * y) // by for x, y in zip(vector, taken)]
    freed[at] = share
    return freed


def _without_unknown(vector, taken, at, by):
    freed = _freed(vector, taken, at, by)
    del freed[at]
    return freed


def _have_room(rest, by):
    """True if all slacks can be from 0 on at once."""
    names = list(range(len(rest)))
    free = []
    for at in range(len(rest[0]) - 2 if rest else 0):
        free.append(None)
        k = 0
        while k < len(rest) and rest[k][at] == 0:
            k += 1
        if k < len(rest):
            taken = rest[k]
            free[at] = names[k]
            names = names[:k] + names[k + 1:]
            rest = [_freed(vector, taken, at, by) for vector in rest[:k] + rest[k + 1:]]
            by = abs(taken[at])
    return _is_room_found(rest, by, names, free)


def _is_room_found(rest, by, names, free):
    """True if slacks, told by free ones, can be exchanged for these until none is below 0 when all free ones are 0.

    Of those below 0 the first is exchanged, for the first one that can raise it; by this
    rule nothing comes again, so there is an end. If none can raise it, it stays below 0.
    """
    while True:
        lacking = [(name, k) for k, name in enumerate(names) if rest[k][-2] < 0 or rest[k][-2] == 0 > rest[k][-1]]
        if not lacking:
            return True
        name, k = min(lacking)
        taken = rest[k]
        helping = [(other, at) for at, other in enumerate(free) if taken[at] > 0]
        if not helping:
            return False
        free_name, at = min(helping)
        freed = [_freed(vector, taken, at, by) for vector in rest]
        freed[k] = [-x for x in taken]
        freed[k][at] = by
        by = taken[at]
        rest = freed
        names[k] = free_name
        free[at] = name

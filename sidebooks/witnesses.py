"""A point that fits a wish that comes."""

from sidebooks.balances import balances
from sidebooks.basics import common_of, is_less, lowest, plus, sign, times


def point_that_fits(book, wish):
    """A point of a wish that comes: one number behind the other, each where the others leave it room."""
    d, questions = book
    asked = [(sides, wall, wished) for (sides, wall), wished in zip(questions, wish) if wished is not None]
    point = ()
    for at in range(d):
        number = _number_within(_bounds(asked, d - at))
        point = point + (number,)
        asked = _with_number(asked, number)
    return point


def _bounds(asked, unknowns):
    """What the first unknown has to be: (more than, just, less than), each a number or `None`.

    A balance of what the questions have of all other unknowns leaves of their sides a
    multiple of this one; these bounds are all, since no other bar could be against a
    number of it.
    """
    low = just = high = None
    vectors = [sides[1:] + (sides[0], wall) for sides, wall, _ in asked]
    for indexes, factors, (side, total) in balances(vectors, unknowns - 1):
        if side == 0:
            continue
        senses = [sign(side * factor * asked[index][2]) for index, factor in zip(indexes, factors)]
        bound = lowest(sign(side) * total, abs(side))
        if not any(senses):
            just = bound
        elif min(senses) >= 0:
            low = bound if low is None or is_less(low, bound) else low
        elif max(senses) <= 0:
            high = bound if high is None or is_less(bound, high) else high
    return (low, just, high)


def _number_within(bounds):
    """A number within bounds that leave one: an integer where there is one."""
    low, just, high = bounds
    if just is not None:
        return just
    if low is None and high is None:
        return (0, 1)
    if low is None:
        return (-(-high[0] // high[1]) - 1, 1)
    whole = (low[0] // low[1] + 1, 1)
    if high is None or is_less(whole, high):
        return whole
    return times(plus(low, high), (1, 2))


def _with_number(asked, number):
    """What is asked of the other unknowns, when the first one has a number that leaves them room."""
    top, bottom = number
    left = []
    for sides, wall, wished in asked:
        others = [bottom * side for side in sides[1:]]
        # Without sides it asks nothing more, and the number that was found answers it.
        if any(others):
            rest = bottom * wall - top * sides[0]
            common = common_of(others + [rest])
            left.append((tuple([side // common for side in others]), rest // common, wished))
    return left

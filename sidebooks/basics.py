"""What numbers, points, questions, rows and wishes are, and exact reckoning with them."""

from math import gcd

from sidebooks.errors import InvalidIndex, InvalidPoint, InvalidRow, InvalidWish


def is_whole(told):
    """True and False are integers for Python, but not for this program."""
    return isinstance(told, int) and not isinstance(told, bool)


def is_number(told):
    if not isinstance(told, tuple) or len(told) != 2:
        return False
    top, bottom = told
    return is_whole(top) and is_whole(bottom) and bottom > 0 and gcd(top, bottom) == 1


def are_numbers(told):
    for item in told:
        if not is_number(item):
            return False
    return True


def is_point(told):
    return isinstance(told, tuple) and len(told) > 0 and are_numbers(told)


def are_wholes(told):
    for item in told:
        if not is_whole(item):
            return False
    return True


def are_sides(told):
    """True for a tuple of integers that are not all 0."""
    return isinstance(told, tuple) and are_wholes(told) and any(told)


def is_question(told):
    """True for a question of any number of unknowns."""
    if not isinstance(told, tuple) or len(told) != 2:
        return False
    sides, wall = told
    return are_sides(sides) and is_whole(wall)


def is_question_of(told, d):
    return is_question(told) and len(told[0]) == d


def is_answer(told):
    return is_whole(told) and -1 <= told <= 1


def is_wish_of(told, many):
    """True for a wish of a book of so many questions."""
    if not isinstance(told, tuple) or len(told) != many:
        return False
    for item in told:
        if item is not None and not is_answer(item):
            return False
    return True


def is_row_of(told, many):
    """True for a row of a book of so many questions, whether it comes or not."""
    return is_wish_of(told, many) and None not in told


def is_index(told, many):
    return is_whole(told) and 0 <= told < many


def are_indexes(told, many):
    """True for a tuple of indexes, in any sequence."""
    return isinstance(told, tuple) and all(is_index(item, many) for item in told)


def check_point(point, d):
    if not is_point(point) or len(point) != d:
        raise InvalidPoint(point)


def check_wish(wish, many):
    if not is_wish_of(wish, many):
        raise InvalidWish(wish)


def check_row(row, many):
    if not is_row_of(row, many):
        raise InvalidRow(row)


def check_index(index, many):
    if not is_index(index, many):
        raise InvalidIndex(index)


def sign(whole):
    if whole == 0:
        return 0
    return 1 if whole > 0 else -1


def lowest(top, bottom):
    """The number of a top and a bottom above 0."""
    common = gcd(top, bottom)
    return (top // common, bottom // common)


def plus(a, b):
    return lowest(a[0] * b[1] + b[0] * a[1], a[1] * b[1])


def minus(a, b):
    return lowest(a[0] * b[1] - b[0] * a[1], a[1] * b[1])


def times(a, b):
    return lowest(a[0] * b[0], a[1] * b[1])


def is_less(a, b):
    return a[0] * b[1] < b[0] * a[1]


def come_to(sides, point):
    """The sum of the sides, or of other integers, each times the point's number."""
    top, bottom = _sum_at(sides, point)
    return lowest(top, bottom)


def answer_at(question, point):
    sides, wall = question
    top, bottom = _sum_at(sides, point)
    return sign(top - wall * bottom)


def _sum_at(sides, point):
    """Top and bottom of what sides come to at a point, not divided."""
    top, bottom = 0, 1
    for side, (above, below) in zip(sides, point):
        top, bottom = top * below + side * above * bottom, bottom * below
    return (top, bottom)


def with_answer(wish, index, answer):
    """A row or wish with another answer for one question."""
    return wish[:index] + (answer,) + wish[index + 1:]


def zeros_of(row):
    """The tuple of the indexes at which a row has 0."""
    return tuple([index for index, answer in enumerate(row) if answer == 0])


def parts_of(one, other):
    """The ascending tuple of the indexes at which one of two rows has -1 and the other 1."""
    return tuple([index for index, (first, second) in enumerate(zip(one, other)) if first * second < 0])


def common_of(wholes):
    """The greatest integer that divides all of them, 0 if all are 0."""
    common = 0
    for whole in wholes:
        common = gcd(common, whole)
    return common


def begins_at(wholes):
    """The first place that is not 0, of integers that are not all 0."""
    at = 0
    while wholes[at] == 0:
        at += 1
    return at


def normal_form(wholes):
    """Integers that are not all 0, divided by what divides all, and turned so that the first but 0 is above 0."""
    common = common_of(wholes)
    if wholes[begins_at(wholes)] < 0:
        common = -common
    return tuple(wholes) if common == 1 else tuple([whole // common for whole in wholes])


def rank_of(rows):
    """How many of some tuples of integers, at most, have none that is a sum of numbers times others."""
    return len(kept_of(rows))


def kept_of(rows):
    """Rests of as few of the tuples as make all of them; each has 0 where those before it begin."""
    kept = []
    for row in rows:
        rest = rest_of(row, kept)
        if any(rest):
            kept.append(rest)
    return kept


def rest_of(row, kept):
    """A multiple of a row, less multiples of kept ones, that has 0 where these begin."""
    rest = row
    # Each kept one has 0 where those kept before it begin, so none brings back what they took out.
    for begun in kept:
        at = begins_at(begun)
        if rest[at] != 0:
            rest = _taken_out(rest, begun, at)
    return rest


def _taken_out(row, begun, at):
    """A multiple of a row, less one of a begun row that leaves 0 at the place where this one begins."""
    rest = [begun[at] * x - row[at] * y for x, y in zip(row, begun)]
    # Undivided, the integers would grow with each row that is taken out.
    common = common_of(rest)
    return [x // common for x in rest] if common > 1 else rest

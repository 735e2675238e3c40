"""The polynomial of a book, merged books, and how many rows they tell."""

from sidebooks.basics import check_index, is_whole, rank_of
from sidebooks.books import all_sides, check_book, made_book
from sidebooks.errors import InvalidBook, InvalidNumber
from sidebooks.flats import graded_flats, signs_above


def polynomial(book):
    check_book(book)
    return _polynomial_of(book)


def value(polynomial, t):
    if not isinstance(polynomial, tuple) or not polynomial or not all(is_whole(x) for x in polynomial):
        raise InvalidNumber(polynomial)
    if not is_whole(t):
        raise InvalidNumber(t)
    return _value_at(polynomial, t)


def merged(book, index):
    check_book(book)
    d, questions = book
    if d == 1:
        raise InvalidBook(book)
    check_index(index, len(questions))
    others = questions[:index] + questions[index + 1:]
    left = _merged_questions(others, questions[index])
    return made_book(d - 1, [question for question in left if any(question[0])])


def how_many(book):
    check_book(book)
    told = _polynomial_of(book)
    # Below this rank the points of each row go on along a line that no question tells apart.
    held = _size_at(told, 1) if rank_of(all_sides(book)) == book[0] else 0
    return (_size_at(told, -1), held)


def rows_by_free(book):
    check_book(book)
    counts = [0] * (book[0] + 1)
    graded = graded_flats(book)
    # The rows with 0 at just the questions of a flat are the full ones of the book merged by these.
    for bits, left in graded:
        counts[left] += _size_at(_polynomial_above(graded, bits), -1)
    return tuple(counts)


def _polynomial_of(book):
    return _polynomial_above(graded_flats(book), 0)


def _polynomial_above(graded, low):
    """The polynomial of the book merged by the questions of a low flat: its flats are those above this one."""
    signs = signs_above(graded, low)
    most = signs[0][1]
    told = [0] * (most + 1)
    for _, left, number in signs:
        told[most - left] += number
    return tuple(told)


def _value_at(numbers, t):
    gathered = 0
    for number in numbers:
        gathered = gathered * t + number
    return gathered


def _size_at(told, t):
    """The value of a book's polynomial, times -1 to the power of the unknowns."""
    found = _value_at(told, t)
    # It has one number more than there are unknowns.
    return found if len(told) & 1 else -found


def _merged_questions(questions, by):
    """The questions without the last unknown that another one has, by this one's answer 0; some may have no sides."""
    sides, wall = by
    last = max([at for at, side in enumerate(sides) if side != 0])
    # Times the size of the side, not the side: so each question keeps its sense.
    size = abs(sides[last])
    found = []
    for others, other_wall in questions:
        share = others[last] if sides[last] > 0 else -others[last]
        left = [size * other - share * side for other, side in zip(others, sides)]
        found.append((tuple(left[:last] + left[last + 1:]), size * other_wall - share * wall))
    return found

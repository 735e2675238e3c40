"""Points, the answers that books give at them, and what lies between two of them."""

from sidebooks.basics import answer_at, check_point, check_wish, is_number, is_point, is_question
from sidebooks.basics import minus, plus, times
from sidebooks.books import check_book
from sidebooks.errors import InvalidNumber, InvalidPoint, InvalidQuestion


def answer(question, point):
    if not is_question(question):
        raise InvalidQuestion(question)
    check_point(point, len(question[0]))
    return answer_at(question, point)


def row_of(book, point):
    check_book(book)
    check_point(point, book[0])
    return _row_at(book, point)


def fits(book, wish, point):
    check_book(book)
    check_wish(wish, len(book[1]))
    check_point(point, book[0])
    row = _row_at(book, point)
    return all(wished is None or wished == given for wished, given in zip(wish, row))


def between(one, other, share):
    if not is_point(one):
        raise InvalidPoint(one)
    check_point(other, len(one))
    if not is_number(share):
        raise InvalidNumber(share)
    return tuple([plus(x, times(share, minus(y, x))) for x, y in zip(one, other)])


def row_between(book, one, other):
    check_book(book)
    check_point(one, book[0])
    check_point(other, book[0])
    return put_ahead(_row_at(book, one), _row_at(book, other))


def put_ahead(one, other):
    """A short step towards another point keeps each answer but 0, and makes of 0 the answer there."""
    return tuple([first if first != 0 else second for first, second in zip(one, other)])


def _row_at(book, point):
    return tuple([answer_at(question, point) for question in book[1]])

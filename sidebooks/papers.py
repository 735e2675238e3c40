"""What can be answered together, by a point, and what can not, by a paper."""

from sidebooks.balances import ANSWERS, bars, comes_by, first_against, with_answer
from sidebooks.basics import check_wish, come_to, is_number
from sidebooks.books import check_book
from sidebooks.errors import InvalidPaper
from sidebooks.witnesses import point_that_fits


def settle(book, wish):
    bar = _first_bar(book, wish)
    if bar is None:
        return ("comes", point_that_fits(book, wish))
    _, indexes, factors, _ = bar
    paper = [(0, 1)] * len(wish)
    for index, factor in zip(indexes, factors):
        paper[index] = (factor, 1)
    return ("never", tuple(paper))


def comes(book, wish):
    return _first_bar(book, wish) is None


def is_paper(book, wish, told):
    check_book(book)
    check_wish(wish, len(book[1]))
    if not isinstance(told, tuple) or len(told) != len(wish) or not all(is_number(x) for x in told):
        raise InvalidPaper(told)
    if not all(_may_stand(x, wished) for x, wished in zip(told, wish)):
        return False
    d, questions = book
    if any(come_to([sides[at] for sides, _ in questions], told)[0] != 0 for at in range(d)):
        return False
    total = come_to([wall for _, wall in questions], told)[0]
    apart = any(x[0] != 0 and wished != 0 for x, wished in zip(told, wish))
    return total > 0 or (total == 0 and apart)


def short_paper(book, wish):
    bar = _first_bar(book, wish)
    return None if bar is None else bar[1]


def forced(book, wish):
    check_book(book)
    check_wish(wish, len(book[1]))
    known = bars(book)
    return tuple([_answers_left(known, wish, index) for index in range(len(wish))])


def _first_bar(book, wish):
    check_book(book)
    check_wish(wish, len(book[1]))
    return first_against(bars(book), wish)


def _may_stand(number, wished):
    """True if a paper may have a number where a wish has an answer or `None`."""
    if wished is None:
        return number[0] == 0
    return number[0] * wished >= 0


def _answers_left(known, wish, index):
    tried = ANSWERS if wish[index] is None else (wish[index],)
    return tuple([answer for answer in tried if comes_by(known, with_answer(wish, index, answer))])

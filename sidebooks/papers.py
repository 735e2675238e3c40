"""What can be answered together, by a point, and what can not, by a paper."""

from sidebooks.balances import ANSWERS, balances_of, bars, code_of, comes_by, senses_of
from sidebooks.basics import check_wish, come_to, common_of, is_number, with_answer
from sidebooks.books import check_book
from sidebooks.errors import InvalidPaper
from sidebooks.trials import comes_alone
from sidebooks.witnesses import point_that_fits


def settle(book, wish):
    _check_wish_of(book, wish)
    if comes_alone(book, wish):
        return ("comes", point_that_fits(book, wish))
    indexes, factors = _first_against(book, wish)
    paper = [(0, 1)] * len(wish)
    for index, factor in zip(indexes, factors):
        paper[index] = (factor, 1)
    return ("never", tuple(paper))


def comes(book, wish):
    _check_wish_of(book, wish)
    return comes_alone(book, wish)


def is_paper(book, wish, told):
    _check_wish_of(book, wish)
    if not isinstance(told, tuple) or len(told) != len(wish) or not all(is_number(x) for x in told):
        raise InvalidPaper(told)
    if not all(_may_stand(x, wished) for x, wished in zip(told, wish)):
        return False
    d, questions = book
    if any(come_to([sides[at] for sides, _ in questions], told)[0] != 0 for at in range(d)):
        return False
    total = come_to([wall for _, wall in questions], told)[0]
    apart = any(x[0] != 0 and wished != 0 for x, wished in zip(told, wish))
    return total > 0 or (total == 0 and apart)


def short_paper(book, wish):
    _check_wish_of(book, wish)
    return None if comes_alone(book, wish) else _first_against(book, wish)[0]


def forced(book, wish):
    _check_wish_of(book, wish)
    known = bars(book)
    return tuple([_answers_left(known, wish, index) for index in range(len(wish))])


def _check_wish_of(book, wish):
    check_book(book)
    check_wish(wish, len(book[1]))


def _first_against(book, wish):
    """(indexes, factors) of the first balance, as its indexes compare, of fewest questions that is a paper."""
    for indexes, factors, sums in sorted(balances_of(book), key=lambda told: (len(told[0]), told[0])):
        common = common_of(factors)
        for sense in senses_of(sums[0]):
            divided = [sense * factor // common for factor in factors]
            if _is_against(indexes, divided, sums[0] != 0, wish):
                return (tuple(indexes), divided)
    return None


def _is_against(indexes, factors, above, wish):
    """True if a balance in a sense that forbids is a paper against a wish; above, if its walls sum to more than 0."""
    for index, factor in zip(indexes, factors):
        wished = wish[index]
        if wished is None or wished * factor < 0:
            return False
        if wished != 0:
            above = True
    return above


def _may_stand(number, wished):
    """True if a paper may have a number where a wish has an answer or `None`."""
    if wished is None:
        return number[0] == 0
    return number[0] * wished >= 0


def _answers_left(known, wish, index):
    tried = ANSWERS if wish[index] is None else (wish[index],)
    return tuple([answer for answer in tried if comes_by(known, code_of(with_answer(wish, index, answer)))])

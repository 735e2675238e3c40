"""Books of questions, and what is made of them."""

from sidebooks.basics import check_index, check_point, come_to, common_of
from sidebooks.basics import is_question_of, is_whole, normal_form, plus, rank_of
from sidebooks.errors import InvalidBook, InvalidQuestion


def is_book(told):
    if not isinstance(told, tuple) or len(told) != 2:
        return False
    d, questions = told
    if not _is_many(d) or not isinstance(questions, tuple):
        return False
    for question in questions:
        if not is_question_of(question, d):
            return False
    return len({nought_form(question) for question in questions}) == len(questions)


def check_book(book):
    if not is_book(book):
        raise InvalidBook(book)


def book(d, questions):
    """The book of the questions, each divided, without those that an earlier one makes needless."""
    if not _is_many(d):
        raise InvalidBook(d)
    if not isinstance(questions, (list, tuple)):
        raise InvalidQuestion(questions)
    for question in questions:
        if not is_question_of(question, d):
            raise InvalidQuestion(question)
    return made_book(d, questions)


def made_book(d, questions):
    """The book of questions that surely are some of d unknowns."""
    seen = set()
    kept = []
    for question in questions:
        form = nought_form(question)
        if form not in seen:
            seen.add(form)
            kept.append(divided(question))
    return (d, tuple(kept))


def without(book, index):
    check_book(book)
    d, questions = book
    check_index(index, len(questions))
    return (d, questions[:index] + questions[index + 1:])


def turned(book, index):
    check_book(book)
    d, questions = book
    check_index(index, len(questions))
    return (d, questions[:index] + (_turned_question(questions[index]),) + questions[index + 1:])


def moved(book, point):
    check_book(book)
    d, questions = book
    check_point(point, d)
    return (d, tuple([_moved_question(question, point) for question in questions]))


def at_once(book):
    check_book(book)
    # The walls can be met together exactly if they ask no more of the point than the sides do.
    return rank_of(all_sides(book)) == rank_of(sides_with_walls(book))


def rank(book):
    check_book(book)
    return rank_of(all_sides(book))


def _is_many(d):
    return is_whole(d) and d >= 1


def all_sides(book):
    return [sides for sides, _ in book[1]]


def sides_with_walls(book):
    return [sides + (wall,) for sides, wall in book[1]]


def divided(question):
    sides, wall = question
    common = common_of(sides + (wall,))
    return (tuple([side // common for side in sides]), wall // common)


def _turned_question(question):
    sides, wall = question
    return (tuple([-side for side in sides]), -wall)


def nought_form(question):
    """What just those questions share that have answer 0 at the same points."""
    sides, wall = question
    return normal_form(sides + (wall,))


def _moved_question(question, point):
    sides, wall = question
    top, bottom = plus(come_to(sides, point), (wall, 1))
    # In lowest terms the bottom is the least integer that makes the wall whole.
    return divided((tuple([side * bottom for side in sides]), top))

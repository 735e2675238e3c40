"""Sayings about what sides come to, and points at which they hold."""

from sidebooks.balances import all_rows_of
from sidebooks.basics import answer_at, are_wholes, check_point, is_whole, sign
from sidebooks.books import divided, made_book, nought_form
from sidebooks.errors import InvalidNumber, InvalidSaying
from sidebooks.witnesses import point_that_fits

# The answer that each word asks for, and how many sayings stand behind each other word.
ASKED = {"less": -1, "is": 0, "more": 1}
PARTS = {"not": 1, "both": 2, "either": 2}


def is_saying(d, told):
    _check_unknowns(d)
    return _is_saying_of(d, told)


def holds(d, saying, point):
    _check_unknowns(d)
    _check_saying(d, saying)
    check_point(point, d)
    return _holds_at(saying, point)


def book_for(d, saying):
    _check_unknowns(d)
    _check_saying(d, saying)
    return made_book(d, _questions_in(saying))


def can_hold(d, saying):
    _check_unknowns(d)
    _check_saying(d, saying)
    return _point_where(d, saying)


def always(d, saying):
    _check_unknowns(d)
    _check_saying(d, saying)
    return _point_where(d, ("not", saying))


def parting(d, one, other):
    _check_unknowns(d)
    _check_saying(d, one)
    _check_saying(d, other)
    return _point_where(d, ("either", ("both", one, ("not", other)), ("both", ("not", one), other)))


def _check_unknowns(d):
    if not is_whole(d) or d < 1:
        raise InvalidNumber(d)


def _check_saying(d, saying):
    if not _is_saying_of(d, saying):
        raise InvalidSaying(saying)


def _is_saying_of(d, told):
    if not isinstance(told, tuple) or not told or not isinstance(told[0], str):
        return False
    word, parts = told[0], told[1:]
    if word in ASKED:
        return len(parts) == 2 and _are_sides_of(d, parts[0]) and is_whole(parts[1])
    return len(parts) == PARTS.get(word, 0) > 0 and all(_is_saying_of(d, part) for part in parts)


def _are_sides_of(d, told):
    return isinstance(told, tuple) and len(told) == d and are_wholes(told)


def _holds_at(saying, point):
    word = saying[0]
    if word in ASKED:
        return answer_at((saying[1], saying[2]), point) == ASKED[word]
    if word == "not":
        return not _holds_at(saying[1], point)
    if word == "both":
        return _holds_at(saying[1], point) and _holds_at(saying[2], point)
    return _holds_at(saying[1], point) or _holds_at(saying[2], point)


def _questions_in(saying):
    """The questions of a saying that have sides, as they stand in it from the left."""
    if saying[0] in ASKED:
        return [(saying[1], saying[2])] if any(saying[1]) else []
    return [question for part in saying[1:] for question in _questions_in(part)]


def _point_where(d, saying):
    """A point at which a saying holds, `None` if there is none."""
    book = made_book(d, _questions_in(saying))
    found = all_rows_of(book)
    indexes = {nought_form(question): index for index, question in enumerate(book[1])}
    marks = _marks_of(saying, book, found, indexes)
    if marks == 0:
        return None
    # The last of the marks that are set tells the first row.
    first = (marks & -marks).bit_length() - 1
    return point_that_fits(book, found[first])


def _marks_of(saying, book, found, indexes):
    """An integer whose bits tell for each of the rows whether a saying holds at the points of this row."""
    word = saying[0]
    if word in ASKED:
        return _marks_of_question(saying, book, found, indexes)
    marks = [_marks_of(part, book, found, indexes) for part in saying[1:]]
    if word == "not":
        return (1 << len(found)) - 1 - marks[0]
    return marks[0] & marks[1] if word == "both" else marks[0] | marks[1]


def _marks_of_question(saying, book, found, indexes):
    word, sides, wall = saying
    if not any(sides):
        return (1 << len(found)) - 1 if sign(-wall) == ASKED[word] else 0
    index = indexes[nought_form((sides, wall))]
    # A question that is turned against that of the book has the other answers.
    asked = ASKED[word] if divided((sides, wall)) == book[1][index] else -ASKED[word]
    return sum([1 << place for place, row in enumerate(found) if row[index] == asked])

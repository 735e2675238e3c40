"""The flats of a book, and their sign numbers."""

from sidebooks.basics import are_indexes, begins_at, check_row, kept_of, normal_form, rank_of, rest_of, zeros_of
from sidebooks.books import check_book, nought_form, sides_with_walls
from sidebooks.errors import InvalidIndex
from sidebooks.trials import check_comes


def flats(book):
    check_book(book)
    return [flat for level in _levels(book) for flat in level]


def closure(book, some):
    check_book(book)
    if not are_indexes(some, len(book[1])):
        raise InvalidIndex(some)
    return _closure_of(book, some)


def free(book, flat):
    _check_flat(book, flat)
    return book[0] - rank_of([book[1][index][0] for index in flat])


def sign_number(book, flat):
    _check_flat(book, flat)
    # The flats whose questions are all among its own are those of the book of its questions alone.
    among = (book[0], tuple([book[1][index] for index in flat]))
    return signs_above(graded_flats(among), 0)[-1][2]


def flat_of(book, row):
    check_book(book)
    check_row(row, len(book[1]))
    check_comes(book, row)
    return zeros_of(row)


def sign_numbers(book):
    """The list of (flat, sign number) in the sequence of the flats."""
    every = range(len(book[1]))
    signs = signs_above(graded_flats(book), 0)
    return [(tuple([index for index in every if bits >> index & 1]), number) for bits, _, number in signs]


def graded_flats(book):
    """For each flat, in their sequence, (the bits of its questions, how many unknowns it leaves free)."""
    found = []
    for k, level in enumerate(_levels(book)):
        found.extend([(sum([1 << index for index in flat]), book[0] - k) for flat in level])
    return found


def signs_above(graded, low):
    """For each of the graded flats with all bits of a low one, for this one first, (bits, unknowns left free, number).

    The number is the sign number where the flats above the low one are all there are.
    """
    found = []
    for bits, left in graded:
        if bits & low == low:
            among = [number for other, _, number in found if other & bits == other]
            found.append((bits, left, -sum(among) if among else 1))
    return found


def _check_flat(book, flat):
    check_book(book)
    if not are_indexes(flat, len(book[1])) or _closure_of(book, flat) != flat:
        raise InvalidIndex(flat)


def _closure_of(book, some):
    every = sides_with_walls(book)
    kept = kept_of([every[index] for index in some])
    # A rest without sides, but with a wall, is answered 0 nowhere.
    if any(begins_at(rest) == book[0] for rest in kept):
        return None
    return tuple([index for index, whole in enumerate(every) if not any(rest_of(whole, kept))])


def _levels(book):
    """The ascending lists of the flats that leave all unknowns free, one less, and so on."""
    level = {(): {nought_form(question): (index,) for index, question in enumerate(book[1])}}
    found = []
    while level:
        found.append(sorted(level))
        level = _next_level(level)
    return found


def _next_level(level):
    """The flats in which one unknown less is free; for each one the classes of all other questions.

    A class is those questions that have answer 0 at the same points of the flat, some,
    but not all of them. It is told by what is left there of sides and wall.
    """
    raised = {}
    for flat, classes in level.items():
        for form, indexes in classes.items():
            longer = tuple(sorted(flat + indexes))
            if longer not in raised:
                raised[longer] = _classes_on(form, classes)
    return raised


def _classes_on(form, classes):
    """What becomes of classes where the questions of one of them have answer 0, too."""
    found = {}
    # Of the last unknown that is free nothing is left.
    if len(form) == 2:
        return found
    at = begins_at(form)
    begun = form[at]
    for other, indexes in classes.items():
        share = other[at]
        rest = [begun * x - share * y for x, y in zip(other, form)]
        del rest[at]
        if any(rest[:-1]):
            left = normal_form(rest)
            found[left] = found.get(left, ()) + indexes
    return found

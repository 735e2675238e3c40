"""The flats of a book, and their sign numbers."""

from sidebooks.balances import bars, check_comes, zeros_of
from sidebooks.basics import are_indexes, begins_at, check_row, kept_of, rank_of, rest_of
from sidebooks.books import check_book, sides_with_walls
from sidebooks.errors import InvalidIndex


def flats(book):
    check_book(book)
    found = []
    level = [()]
    # One more question leaves one unknown less free; so the levels come in the sequence that is asked for.
    while level:
        found.extend(level)
        level = _next_level(book, level)
    return found


def closure(book, some):
    check_book(book)
    if not are_indexes(some, len(book[1])):
        raise InvalidIndex(some)
    return _closure_of(book, some)


def free(book, flat):
    _check_flat(book, flat)
    return free_of(book, flat)


def sign_number(book, flat):
    _check_flat(book, flat)
    return [number for other, number in sign_numbers(book) if other == flat][0]


def flat_of(book, row):
    check_book(book)
    check_row(row, len(book[1]))
    check_comes(bars(book), row)
    return zeros_of(row)


def sign_numbers(book):
    """The list of (flat, sign number) in the sequence of the flats."""
    found = []
    for flat in flats(book):
        among = [number for other, number in found if all(index in flat for index in other)]
        found.append((flat, 1 if flat == () else -sum(among)))
    return found


def free_of(book, flat):
    return book[0] - rank_of([book[1][index][0] for index in flat])


def _check_flat(book, flat):
    check_book(book)
    if not are_indexes(flat, len(book[1])) or _closure_of(book, flat) != flat:
        raise InvalidIndex(flat)


def _closure_of(book, some):
    every = sides_with_walls(book)
    kept = kept_of([every[index] for index in some])
    # A rest without sides, but with a wall, is answered 0 nowhere.
    if any(begins_at(rest) == book[0] for rest in kept):
        return None
    return tuple([index for index, whole in enumerate(every) if not any(rest_of(whole, kept))])


def _next_level(book, level):
    raised = [_closure_of(book, flat + (index,)) for flat in level
              for index in range(len(book[1])) if index not in flat]
    return sorted({flat for flat in raised if flat is not None})

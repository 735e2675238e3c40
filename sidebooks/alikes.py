"""Books that have the same rows, by themselves or led to one another."""

from sidebooks.balances import bars, signs_of
from sidebooks.books import check_book
from sidebooks.errors import InvalidPair
from sidebooks.rows import rows


def unlike(one, other):
    _check_pair(one, other)
    apart = sorted(set(rows(one)) ^ set(rows(other)))
    return apart[0] if apart else None


def alike_by(one, other):
    _check_pair(one, other)
    # A row comes unless a bar is against it, and the answers that bars forbid together tell all of that:
    # where the walls sum to 0 they are there in both senses. So books with the same ones have the same rows.
    return _first_leading(_forbidden(one), _forbidden(other), len(one[1]), (), [()])


def barred(book):
    check_book(book)
    found = sorted([(bar[0], signs_of(bar, len(book[1]))) for bar in bars(book)])
    return [tuple([None if sign == 0 else sign for sign in signs]) for _, signs in found]


def _check_pair(one, other):
    check_book(one)
    check_book(other)
    if len(one[1]) != len(other[1]):
        raise InvalidPair((len(one[1]), len(other[1])))


def _forbidden(book):
    return [signs_of(bar, len(book[1])) for bar in bars(book)]


def _first_leading(ones, others, many, sequence, choices):
    """The first pair that leads the forbidden answers of one book to those of another.

    The sequence is what has been chosen so far, and the choices are all tuples of
    signs, ascending, by which the first questions of the other book are led.
    """
    if len(sequence) == many:
        return (sequence, choices[0])
    for place in range(many):
        if place in sequence:
            continue
        longer = sequence + (place,)
        # The first questions are a book, too, and what it forbids is forbidden in the whole.
        within = [signs for signs in ones if all(signs[k] == 0 for k in range(many) if k not in longer)]
        wanted = sorted([signs[:len(longer)] for signs in others if not any(signs[len(longer):])])
        left = [signs + (sense,) for signs in choices for sense in (-1, 1)]
        left = [signs for signs in left if _led(within, longer, signs) == wanted]
        found = _first_leading(ones, others, many, longer, left) if left else None
        if found is not None:
            return found
    return None


def _led(forbidden, sequence, senses):
    return sorted([tuple([sense * signs[place] for place, sense in zip(sequence, senses)]) for signs in forbidden])

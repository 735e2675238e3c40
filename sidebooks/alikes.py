"""Books that have the same rows, by themselves or led to one another."""

from sidebooks.balances import all_rows_of, balances_of, barred_signs
from sidebooks.books import check_book
from sidebooks.errors import InvalidPair


def unlike(one, other):
    _check_pair(one, other)
    apart = sorted(set(all_rows_of(one)) ^ set(all_rows_of(other)))
    return apart[0] if apart else None


def alike_by(one, other):
    _check_pair(one, other)
    # A row comes unless a balance forbids it, and the answers that balances forbid together, in one sense or
    # in both, tell all of that. So books with the same ones have the same rows.
    ones, others = _forbidden(one), _forbidden(other)
    many = len(one[1])
    ending = [[told for told in others if told[0][-1] == k] for k in range(many)]
    by_questions = {asked: (below, both) for _, asked, below, both in ones}
    return _first_leading(by_questions, ending, (), [0]) if len(ones) == len(others) else None


def barred(book):
    check_book(book)
    found = sorted([(len(signs) - signs.count(0), signs) for signs in barred_signs(book)])
    return [tuple([None if sign == 0 else sign for sign in signs]) for _, signs in found]


def _check_pair(one, other):
    check_book(one)
    check_book(other)
    if len(one[1]) != len(other[1]):
        raise InvalidPair((len(one[1]), len(other[1])))


def _forbidden(book):
    """For each balance (indexes, their bits, the bits of those with -1, True if its other sense forbids, too)."""
    found = []
    for indexes, factors, sums in balances_of(book):
        asked = sum([1 << index for index in indexes])
        below = sum([1 << index for index, factor in zip(indexes, factors) if factor < 0])
        found.append((indexes, asked, asked - below if sums[0] < 0 else below, sums[0] == 0))
    return found


def _first_leading(ones, ending, sequence, choices):
    """The first pair that leads what one book forbids to what another one does, told by the last question of each.

    The sequence is what has been chosen so far, and the choices are all signs, first
    ones first, by which the first questions of the other book are led: each an integer
    with the bits of those that are turned.
    """
    k = len(sequence)
    if k == len(ending):
        return (sequence, tuple([-1 if choices[0] >> place & 1 else 1 for place in range(k)]))
    grown = [choice + turned for choice in choices for turned in (1 << k, 0)]
    for place in range(len(ending)):
        if place in sequence:
            continue
        longer = sequence + (place,)
        # The first questions are a book, too, and what it forbids is forbidden in the whole.
        led = _led(ones, ending[k], longer)
        left = [] if led is None else [choice for choice in grown if _leads(led, choice)]
        found = _first_leading(ones, ending, longer, left) if left else None
        if found is not None:
            return found
    return None


def _led(ones, ending, sequence):
    """For all that the other book forbids at its last question so far: (bits, those that have to be turned, both).

    Both is True if all others may be turned as well. It is `None` if the one book does
    not forbid something to the questions from which these come.
    """
    found = []
    for indexes, asked, below, both in ending:
        places = sum([1 << sequence[k] for k in indexes])
        if places not in ones or ones[places][1] != both:
            return None
        from_below = ones[places][0]
        turned = sum([1 << k for k in indexes if (below >> k ^ from_below >> sequence[k]) & 1])
        found.append((asked, turned, both))
    return found


def _leads(led, choice):
    """True if the questions that are turned are just those that have to be, or, where that is as good, all others."""
    for asked, turned, both in led:
        wrong = (choice ^ turned) & asked
        if wrong != 0 and not (both and wrong == asked):
            return False
    return True

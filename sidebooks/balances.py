"""Sums of sides that come to 0, and the answers that they forbid together.

A balance is (indexes, factors, sums): the sides of these questions, each times its
factor, sum to 0 for each unknown, no factor is 0, and none of the questions can be
left out; so its factors are the only ones but for multiples. The sums are what the
factors make of the numbers that stand behind the sides, such as the walls.

A row or wish is forbidden exactly if a balance is a paper against it, in the sense in
which its walls sum to 0 or more; for the fewest questions that forbid it are those of
a balance: were two balances among them, one less a multiple of the other would be a
paper with fewer questions.

So that many rows can be asked fast, answers are told by the bits of a code: 1 always,
and for each question two more, one for the answer 1 and one for -1, none for 0, both
for `None`. A bar is (last index, opposed, agreed): the codes of all answers against
its senses, and of those with them, here with the 1 if noughts alone are forbidden, too.
A code is barred if it has nothing of what is opposed, but something of what is agreed.
"""

from sidebooks.basics import sign
from sidebooks.books import sides_with_walls

ANSWERS = (-1, 0, 1)
FULL_ANSWERS = (-1, 1)
# For the answers 0, 1 and, as the last one, -1.
CODES = (0, 2, 4)
OPEN_CODE = 6


def balances(vectors, many):
    """All balances of some vectors by their first numbers, so many, each once."""
    found = []
    _add_balances(found, [], [], list(range(many)), 1, list(enumerate(vectors)))
    return found


def balances_of(book):
    """Those of the sides of a book; their sums are those of the walls."""
    return balances(sides_with_walls(book), book[0])


def senses_of(total):
    """The senses in which the walls sum to 0 or more."""
    if total == 0:
        return (1, -1)
    return (1,) if total > 0 else (-1,)


def bars(book):
    """All bars of a book."""
    found = []
    for indexes, factors, sums in balances_of(book):
        up, down = codes_of(indexes, factors)
        last, total = indexes[-1], sums[0]
        if total > 0:
            found.append((last, down, up + 1))
        elif total < 0:
            found.append((last, up, down + 1))
        else:
            found.append((last, down, up))
            found.append((last, up, down))
    return found


def codes_of(indexes, factors):
    """The code of the answers with the signs of the factors of some questions, and that of the answers against them."""
    up, down = 0, 0
    for index, factor in zip(indexes, factors):
        if factor > 0:
            up += 2 << 2 * index
            down += 4 << 2 * index
        else:
            up += 4 << 2 * index
            down += 2 << 2 * index
    return (up, down)


def barred_signs(book):
    """For each balance, in each sense that forbids, the answers that it forbids together, 0 for other questions."""
    found = []
    for indexes, factors, sums in balances_of(book):
        for sense in senses_of(sums[0]):
            signs = [0] * len(book[1])
            for index, factor in zip(indexes, factors):
                signs[index] = sense * sign(factor)
            found.append(tuple(signs))
    return found


def code_of(wish):
    code = 1
    for index, wished in enumerate(wish):
        code += (OPEN_CODE if wished is None else CODES[wished]) << 2 * index
    return code


def comes_by(known, code):
    """True if none of the bars of a book forbids what a code tells."""
    for _, opposed, agreed in known:
        if code & opposed == 0 and code & agreed != 0:
            return False
    return True


def exchanged_code(code, index):
    """The code with the answer -1 or 1 for one question exchanged."""
    return code ^ (OPEN_CODE << 2 * index)


def coded_rows(known, choices):
    """All (row, code) of rows that come and have for each question one of its choices, which ascend; so do they."""
    found = [((), 1)]
    for at, answers in enumerate(choices):
        # Bars that end earlier have been asked before.
        ending = [(opposed, agreed) for last, opposed, agreed in known if last == at]
        found = _longer_rows(found, [(answer, CODES[answer] << 2 * at) for answer in answers], ending)
    return found


def rows_by(known, choices):
    return [row for row, _ in coded_rows(known, choices)]


def all_rows_of(book):
    return rows_by(bars(book), [ANSWERS] * len(book[1]))


def full_rows_of(book):
    return rows_by(bars(book), [FULL_ANSWERS] * len(book[1]))


def _longer_rows(found, choices, ending):
    longer = []
    for row, code in found:
        for answer, bit in choices:
            coded = code + bit
            for opposed, agreed in ending:
                if coded & opposed == 0 and coded & agreed != 0:
                    break
            else:
                longer.append((row + (answer,), coded))
    return longer


def _add_balances(found, chosen, places, live, by, left):
    """Adds all balances of some chosen vectors, which by themselves make no sum 0, and one or more of those left.

    What is left are pairs of an index and a vector that was taken `by` times, and from
    which the chosen ones were taken so often that it has 0 at one place for each: there
    stands now how often. At the live places is what is still to become 0.
    """
    for k, (index, taken) in enumerate(left):
        at = _first_place(taken, live)
        if at is None:
            factors = [taken[place] for place in places]
            if 0 not in factors:
                found.append((chosen + [index], factors + [by], taken[len(places) + len(live):]))
            continue
        behind = left[k + 1:]
        if behind:
            freed = [(other, _freed(vector, taken, at, by)) for other, vector in behind]
            others = [place for place in live if place != at]
            _add_balances(found, chosen + [index], places + [at], others, taken[at], freed)


def _first_place(vector, live):
    for place in live:
        if vector[place] != 0:
            return place
    return None


def _freed(vector, taken, at, by):
    """A vector, as often as another one has at a place, less the other one as often as it has there itself."""
    pivot, share = taken[at], vector[at]
    # All these integers are determinants, which by, the last pivot, divides.
    freed = [(pivot * x - share * y) // by for x, y in zip(vector, taken)]
    freed[at] = -share
    return freed

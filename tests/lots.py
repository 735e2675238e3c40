"""Lots that are right, and the walk by them reckoned with fractions, apart from the program."""

from fractions import Fraction

from tests.oracle import all_full, all_rows
from tests.samples import BOOKS, CORNER, CROSS, SHELF, STAR, STRIPES, THREE, WEB_BOOKS, number

LINE = (1, (((1,), 0),))
THIRDS = (((-1,), (1, 3)), ((0,), (1, 3)), ((1,), (1, 3)))


def even(rows):
    return tuple((row, (1, len(rows))) for row in sorted(rows))


def uneven(rows):
    """The rows with chances that all differ."""
    whole = len(rows) * (len(rows) + 1) // 2
    return tuple((row, number(Fraction(k + 1, whole))) for k, row in enumerate(sorted(rows)))


def to_fronts(n):
    """The rows of the book of all ties in which one thing is less than all others, which are equal."""
    ties = [(i, j) for i in range(n) for j in range(i + 1, n)]
    return [tuple((j == k) - (i == k) for i, j in ties) for k in range(n)]


def some_rows(book, many):
    found = all_rows(book)
    return found[::max(1, len(found) // many)][:many]


def lots_of(book):
    """Lots of a book: of one row, of few, of full ones alone, of some of each kind."""
    found = all_rows(book)
    full = all_full(book)
    lots = [even(found[:1]), even(found[-1:]), even(full[:4]), uneven(full[-3:]), uneven(some_rows(book, 7)),
            even(some_rows(book, 8)), uneven(found[:5])]
    return lots + [even([row for row in found if 0 in row][:6])] if any(0 in row for row in found) else lots


# Books of at most 24 full rows.
WALKED = [LINE, THREE, CROSS, STAR, STRIPES, CORNER, SHELF, BOOKS[0], BOOKS[3], BOOKS[4], BOOKS[8], (3, ())]
WALKED += WEB_BOOKS[:4]
WALKS = [(book, lot) for book in WALKED for lot in lots_of(book)]
WALKS += [(LINE, THIRDS), (SHELF, even(to_fronts(4))), (SHELF, uneven(to_fronts(4))),
          (WEB_BOOKS[2], even(to_fronts(3)))]


def idle(book, lot):
    """The questions at which all drawn rows have 0."""
    return [k for k in range(len(book[1])) if all(row[k] == 0 for row, _ in lot)]


# Those that come to one long run.
RUNS = [(book, lot) for book, lot in WALKS if not idle(book, lot)]


def put(one, other):
    return tuple(b if a == 0 else a for a, b in zip(one, other))


def one_step(book, lot):
    """For each full row the chances of one step to each full row, as fractions."""
    full = all_full(book)
    found = []
    for start in full:
        chances = [Fraction(0)] * len(full)
        for row, (top, bottom) in lot:
            chances[full.index(put(row, start))] += Fraction(top, bottom)
        found.append(chances)
    return found


def stepped(chances, steps):
    """The chances behind one step more."""
    return [sum(chances[k] * steps[k][to] for k in range(len(steps))) for to in range(len(steps))]


def share_at(lot, some):
    """The sum of the chances of the rows with 0 at all of some questions."""
    return sum((Fraction(*chance) for row, chance in lot if all(row[k] == 0 for k in some)), Fraction(0))


def sum_of_powers(book, lot, n):
    found = Fraction(0)
    for k in range(len(book[1])):
        share = share_at(lot, [k])
        found += 1 if n == 0 else share ** n
    return found

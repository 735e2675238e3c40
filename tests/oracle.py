"""Rows, wishes and flats by the test's own reckoning, apart from the program: points at which each row shows."""

from fractions import Fraction
from functools import lru_cache
from itertools import combinations, permutations, product
from math import gcd

from tests.samples import number


def plain_question(sides, wall):
    """One form for all questions that have answer 0 at the same points."""
    common = gcd(*sides, wall)
    first = [side for side in sides if side != 0][0]
    by = common if first > 0 else -common
    return (tuple(side // by for side in sides), wall // by)


def shadows(questions):
    """Questions without the last unknown, between whose answers the others keep their order along it."""
    flat = [(sides[:-1], wall) for sides, wall in questions if sides[-1] == 0]
    steep = [(sides, wall) for sides, wall in questions if sides[-1] != 0]
    for (sides, wall), (others, wall_too) in combinations(steep, 2):
        a, b = sides[-1], others[-1]
        flat.append((tuple(b * x - a * y for x, y in zip(sides, others))[:-1], b * wall - a * wall_too))
    return sorted({plain_question(sides, wall) for sides, wall in flat if any(sides)})


def marks_on_line(walls):
    """All numbers at walls, one between each two, and one beyond either end."""
    ends = sorted(set(walls))
    if not ends:
        return [Fraction(0)]
    between = [(low + high) / 2 for low, high in zip(ends, ends[1:])]
    return [ends[0] - 1] + ends + between + [ends[-1] + 1]


def sample_points(d, questions):
    """Points of d unknowns, at least one for each row of the questions."""
    if d == 0:
        return [()]
    found = []
    for start in sample_points(d - 1, shadows(questions)):
        steep = [(sides, wall) for sides, wall in questions if sides[-1] != 0]
        walls = [(wall - sum(a * x for a, x in zip(sides, start))) / Fraction(sides[-1]) for sides, wall in steep]
        found.extend(start + (x,) for x in marks_on_line(walls))
    return found


def row_at(questions, point):
    sums = [sum(a * x for a, x in zip(sides, point)) - wall for sides, wall in questions]
    return tuple((x > 0) - (x < 0) for x in sums)


@lru_cache(maxsize=None)
def witnesses(book):
    """Each row that comes, ascending, with a point that has it."""
    d, questions = book
    plain = sorted({plain_question(sides, wall) for sides, wall in questions})
    found = {}
    for point in sample_points(d, plain):
        found.setdefault(row_at(questions, point), tuple(number(x) for x in point))
    return {row: found[row] for row in sorted(found)}


def all_rows(book):
    return list(witnesses(book))


def all_full(book):
    return [row for row in all_rows(book) if 0 not in row]


def fitting(book, wish):
    """The rows that come and fit a wish."""
    return [row for row in all_rows(book) if all(w is None or w == a for w, a in zip(wish, row))]


def adds_up(book, wish, told):
    """True if a tuple of numbers is a paper against a wish, by sums of fractions."""
    d, questions = book
    factors = [Fraction(top, bottom) for top, bottom in told]
    for factor, wished in zip(factors, wish):
        if factor != 0 and (wished is None or (wished == 1 and factor < 0) or (wished == -1 and factor > 0)):
            return False
    for at in range(d):
        if sum(factor * sides[at] for factor, (sides, _) in zip(factors, questions)) != 0:
            return False
    total = sum(factor * wall for factor, (_, wall) in zip(factors, questions))
    touched = any(factor != 0 and wished in (-1, 1) for factor, wished in zip(factors, wish))
    return total > 0 or (total == 0 and touched)


def rank_by_taking_out(vectors):
    """The rank of some tuples, by fractions, column by column."""
    left = [[Fraction(x) for x in vector] for vector in vectors]
    rank = 0
    for at in range(len(left[0]) if left else 0):
        begins = [row for row in left if row[at] != 0]
        if begins:
            by = begins[0]
            left = [[x - row[at] / by[at] * y for x, y in zip(row, by)] for row in left if row is not by]
            rank += 1
    return rank


def zero_set(row):
    return tuple(k for k, answer in enumerate(row) if answer == 0)


def left_free(book, some):
    return book[0] - rank_by_taking_out([book[1][k][0] for k in some])


@lru_cache(maxsize=None)
def ways(book):
    """The rows of the book with all walls 0: where ways from any point lead."""
    d, questions = book
    return tuple(all_rows((d, tuple((sides, 0) for sides, _ in questions))))


def held(book, row):
    """True if no way but that of no length stays within the row for ever."""
    if left_free(book, range(len(book[1]))) > 0:
        return False
    return not any(any(way) and all(w in (0, a) for w, a in zip(way, row)) for way in ways(book))


def all_flats(book):
    """The zero sets of the rows: at most points of a flat just its own questions have answer 0."""
    found = {zero_set(row) for row in all_rows(book)}
    return sorted(found, key=lambda flat: (-left_free(book, flat), flat))


def all_sign_numbers(book):
    signs = {}
    for flat in all_flats(book):
        signs[flat] = 1 if flat == () else -sum(signs[other] for other in signs if set(other) < set(flat))
    return signs


def counted(book):
    """The polynomial, flat by flat."""
    found = [0] * (book[0] + 1)
    for flat, sign in all_sign_numbers(book).items():
        found[book[0] - left_free(book, flat)] += sign
    return tuple(found)


def all_barred(book):
    """The wishes of -1, 1 and None that do not come, though each with one more None does."""
    many = len(book[1])
    found = []
    for signs in product((-1, 0, 1), repeat=many):
        wish = tuple(a or None for a in signs)
        if fitting(book, wish):
            continue
        shorter = [wish[:k] + (None,) + wish[k + 1:] for k in range(many) if wish[k]]
        if all(fitting(book, less) for less in shorter):
            found.append((many - signs.count(0), signs, wish))
    return [wish for _, _, wish in sorted(found, key=lambda item: item[:2])]


def first_leading(one, other):
    """The first pair of a sequence and signs that leads the rows of one book to those of another."""
    many = len(one[1])
    wanted = set(all_rows(other))
    for sequence in permutations(range(many)):
        for signs in product((-1, 1), repeat=many):
            if {tuple(s * row[k] for k, s in zip(sequence, signs)) for row in all_rows(one)} == wanted:
                return (sequence, signs)
    return None


def least_paper(book, wish):
    """The fewest questions, of these the first, whose wishes alone are not fitted by a row."""
    many = len(wish)
    for size in range(many + 1):
        for some in combinations(range(many), size):
            if not fitting(book, tuple(w if k in some else None for k, w in enumerate(wish))):
                return some
    return None


def all_least_roads(book, one, other):
    apart = [k for k in range(len(one)) if one[k] != other[k]]
    full = set(all_full(book))
    found = []
    for road in permutations(apart):
        row, comes = one, True
        for k in road:
            row = row[:k] + (-row[k],) + row[k + 1:]
            comes = comes and row in full
        if comes:
            found.append(road)
    return found

"""Points [3] and [4], section sidebooks/books.py: what is right."""

import unittest
from fractions import Fraction
from itertools import combinations, product
from math import gcd

from sidebooks.books import at_once, book, is_book, moved, rank, turned, without
from sidebooks.points import row_of
from tests.samples import BOOKS, FORTY, THREE, no_books, number, plain, points_of, row_by_fractions

SMALL_LINES = [(sides, wall) for sides in product((-1, 0, 1), repeat=2) if any(sides) for wall in (-1, 0, 1)]


def determinant(rows):
    if not rows:
        return 1
    return sum((-1) ** k * rows[0][k] * determinant([row[:k] + row[k + 1:] for row in rows[1:]])
               for k in range(len(rows)))


def rank_by_minors(rows):
    wide = len(rows[0]) if rows else 0
    sizes = [size for size in range(1, min(len(rows), wide) + 1)
             for some in combinations(rows, size) for columns in combinations(range(wide), size)
             if determinant([[row[c] for c in columns] for row in some]) != 0]
    return max(sizes, default=0)


def crossings(questions):
    """In the plane: if all questions can be met at once, one of these points does it."""
    found = [((0, 1), (0, 1))]
    for (a, b), wall in questions:
        size = a * a + b * b
        found.append((number(Fraction(a * wall, size)), number(Fraction(b * wall, size))))
    for ((a, b), w), ((c, e), v) in combinations(questions, 2):
        size = a * e - b * c
        if size != 0:
            found.append((number(Fraction(w * e - b * v, size)), number(Fraction(a * v - w * c, size))))
    return found


class IsBook(unittest.TestCase):
    def test_books(self):
        for told in BOOKS:
            self.assertIs(is_book(told), True, told)

    def test_no_books(self):
        for told in no_books():
            self.assertIs(is_book(told), False, told)

    def test_questions_need_not_be_divided(self):
        self.assertIs(is_book((2, (((2, 4), 6), ((2, 4), 5)))), True)
        self.assertIs(is_book((1, (((4,), 4), ((-4,), 4)))), True)
        self.assertIs(is_book((1, (((4,), 4), ((-4,), -4)))), False)

    def test_same_noughts_by_points(self):
        for one, other in product(SMALL_LINES, repeat=2):
            same = one in (other, (tuple(-side for side in other[0]), -other[1]))
            self.assertIs(is_book((2, (one, other))), not same, (one, other))
            doubled = (tuple(-2 * side for side in other[0]), -2 * other[1])
            self.assertIs(is_book((2, (one, doubled))), not same, (one, doubled))

    def test_walls_that_share_no_divisor_with_the_sides(self):
        self.assertIs(is_book((1, (((2,), 1), ((4,), 2)))), False)
        self.assertIs(is_book((1, (((2,), 1), ((4,), 1)))), True)
        self.assertIs(is_book((1, (((FORTY,), 1), ((2 * FORTY,), 2)))), False)
        self.assertIs(is_book((1, (((FORTY,), 1), ((2 * FORTY,), 3)))), True)


class Book(unittest.TestCase):
    def test_no_questions(self):
        self.assertEqual(book(1, []), (1, ()))
        self.assertEqual(book(3, ()), (3, ()))

    def test_divided_in_its_sense(self):
        self.assertEqual(book(2, [((2, 4), 6)]), (2, (((1, 2), 3),)))
        self.assertEqual(book(2, [((-2, 4), -6)]), (2, (((-1, 2), -3),)))
        self.assertEqual(book(2, (((0, -4), 0),)), (2, (((0, -1), 0),)))
        self.assertEqual(book(2, [((4, 6), 3)]), (2, (((4, 6), 3),)))
        self.assertEqual(book(1, [((6 * FORTY,), 9 * FORTY)]), (1, (((2,), 3),)))

    def test_the_earlier_one_stays(self):
        self.assertEqual(book(1, [((-1,), -2), ((2,), 4)]), (1, (((-1,), -2),)))
        self.assertEqual(book(1, [((3,), 1), ((2,), 4), ((-6,), -2), ((1,), 2), ((1,), -2)]),
                         (1, (((3,), 1), ((1,), 2), ((1,), -2))))

    def test_small_lines(self):
        for some in product(SMALL_LINES[::2], SMALL_LINES[1::3], SMALL_LINES):
            made = book(2, some)
            self.assertTrue(is_book(made))
            kept = [q for k, q in enumerate(some)
                    if q not in some[:k] and (tuple(-side for side in q[0]), -q[1]) not in some[:k]]
            self.assertEqual(made, (2, tuple(kept)))
            tripled = [(tuple(3 * side for side in sides), 3 * wall) for sides, wall in some]
            self.assertEqual(book(2, tripled), made)

    def test_books_of_the_samples(self):
        for d, questions in BOOKS:
            made = book(d, list(questions))
            self.assertTrue(is_book(made) and plain(made))
            self.assertEqual(len(made[1]), len(questions))
            for point in points_of(d, 20):
                self.assertEqual(row_by_fractions(made, point), row_by_fractions((d, questions), point))
            self.assertEqual(book(d, questions), made)
            self.assertEqual(book(d, made[1] + questions), made)


class WithoutAndTurned(unittest.TestCase):
    def test_without(self):
        for d, questions in BOOKS:
            for index in range(len(questions)):
                left = without((d, questions), index)
                self.assertEqual(left, (d, tuple(q for k, q in enumerate(questions) if k != index)))
                self.assertTrue(is_book(left) and plain(left))

    def test_without_the_only_one(self):
        self.assertEqual(without((1, (((2,), 4),)), 0), (1, ()))

    def test_turned(self):
        for told in BOOKS:
            for index in range(len(told[1])):
                found = turned(told, index)
                self.assertTrue(is_book(found) and plain(found))
                self.assertEqual(turned(found, index), told)
                for point in points_of(told[0], 20):
                    row = row_by_fractions(told, point)
                    expected = row[:index] + (-row[index],) + row[index + 1:]
                    self.assertEqual(row_by_fractions(found, point), expected)

    def test_turned_is_not_divided(self):
        self.assertEqual(turned((2, (((2, -4), 6), ((0, 2), 0))), 0), (2, (((-2, 4), -6), ((0, 2), 0))))
        self.assertEqual(turned((2, (((2, -4), 6), ((0, 2), 0))), 1), (2, (((2, -4), 6), ((0, -2), 0))))


class Moved(unittest.TestCase):
    def test_answers_at_the_point_less_the_told_one(self):
        for told in BOOKS:
            for by in points_of(told[0], 12):
                found = moved(told, by)
                self.assertTrue(is_book(found) and plain(found))
                for point in points_of(told[0], 12):
                    back = tuple(number(Fraction(*x) - Fraction(*y)) for x, y in zip(point, by))
                    self.assertEqual(row_of(found, point), row_by_fractions(told, back))

    def test_each_question_is_divided(self):
        for told in BOOKS:
            for by in points_of(told[0], 12):
                for sides, wall in moved(told, by)[1]:
                    self.assertEqual(gcd(*sides, wall), 1)

    def test_by_noughts(self):
        for told in BOOKS:
            self.assertEqual(moved(told, ((0, 1),) * told[0]), book(*told))
        self.assertEqual(moved((1, (((-4,), 6),)), ((0, 1),)), (1, (((-2,), 3),)))

    def test_there_and_back(self):
        for told in BOOKS:
            for by in points_of(told[0]):
                back = tuple((-top, bottom) for top, bottom in by)
                self.assertEqual(moved(moved(told, by), back), book(*told))

    def test_each_wall_becomes_whole_by_itself(self):
        self.assertEqual(moved(THREE, ((1, 2), (1, 3))), (2, (((2, 0), 1), ((0, 3), 1), ((6, 6), 11))))
        self.assertEqual(moved((1, (((2,), 0), ((1,), 1))), ((1, 2),)), (1, (((2,), 1), ((2,), 3))))
        self.assertEqual(moved((1, (((-1,), 0),)), ((1, FORTY),)), (1, (((-FORTY,), -1),)))


class AtOnceAndRank(unittest.TestCase):
    def test_no_questions(self):
        for d in (1, 2, 3):
            self.assertIs(at_once((d, ())), True)
            self.assertEqual(rank((d, ())), 0)

    def test_in_the_plane(self):
        for some in product(SMALL_LINES[::2], SMALL_LINES[1::2], SMALL_LINES):
            told = book(2, some)
            met = any(not any(row_by_fractions(told, point)) for point in crossings(told[1]))
            self.assertIs(at_once(told), met, told)
            self.assertEqual(rank(told), rank_by_minors([q[0] for q in told[1]]), told)

    def test_on_the_line(self):
        for walls in product(range(-2, 3), repeat=2):
            told = book(1, [((2,), walls[0]), ((-3,), walls[1])])
            self.assertIs(at_once(told), -3 * walls[0] == 2 * walls[1])
            self.assertEqual(rank(told), 1)

    def test_parallel_ones(self):
        self.assertIs(at_once(BOOKS[7]), False)
        self.assertEqual(rank(BOOKS[7]), 1)
        apart = (3, (((1, 2, 3), 1), ((2, 4, 6), 3)))
        self.assertEqual([at_once(apart), rank(apart)], [False, 1])

    def test_through_one_point(self):
        sides = [(1, 0, 0), (0, 2, 1), (1, -1, 4), (FORTY, 3, -2), (5, 5, 5), (-1, 7, 0)]
        for point in ((1, 2, 3), (-9, 0, 4), (0, 0, 0), (FORTY, -FORTY, 1)):
            for many in range(7):
                some = [(s, sum(a * x for a, x in zip(s, point))) for s in sides[:many]]
                told = book(3, some)
                self.assertIs(at_once(told), True)
                self.assertEqual(rank(told), min(many, 3))
                if many >= 4:
                    off = book(3, some[:-1] + [(some[-1][0], some[-1][1] + 1)])
                    self.assertIs(at_once(off), False)

    def test_rank_in_space(self):
        every = [sides for sides in product((-2, 0, 1), repeat=3) if any(sides)]
        for k, some in enumerate(combinations(every, 3)):
            told = (3, tuple((sides, 5 * place + 1) for place, sides in enumerate(some)))
            if is_book(told):
                self.assertEqual(rank(told), rank_by_minors(list(some)), told)
                whole = [sides + (wall,) for sides, wall in told[1]]
                self.assertIs(at_once(told), rank_by_minors(whole) == rank_by_minors(list(some)), told)

    def test_the_sequence_does_not_matter(self):
        for d, questions in BOOKS:
            self.assertEqual(rank((d, questions[::-1])), rank((d, questions)))
            self.assertIs(at_once((d, questions[::-1])), at_once((d, questions)))

    def test_three_that_meet_by_twos(self):
        self.assertEqual([at_once(THREE), rank(THREE)], [False, 2])
        met = (2, (((1, 0), 1), ((0, 1), 2), ((1, 1), 3)))
        self.assertEqual([at_once(met), rank(met)], [True, 2])
        dependent = (3, (((1, -1, 0), 0), ((0, 1, -1), 0), ((1, 0, -1), 0)))
        self.assertEqual([at_once(dependent), rank(dependent)], [True, 2])
        prism = (3, (((1, -1, 0), 0), ((0, 1, -1), 0), ((1, 0, -1), 1)))
        self.assertEqual([at_once(prism), rank(prism)], [False, 2])


if __name__ == "__main__":
    unittest.main()

"""Point [8], section sidebooks/flats.py: what is right."""

import unittest
from itertools import product

from sidebooks.books import moved, turned
from sidebooks.flats import closure, flat_of, flats, free, sign_number
from tests.oracle import all_flats, all_rows, all_sign_numbers, left_free, zero_set
from tests.samples import (BOOKS, CORNER, CROSS, FORTY, MORE_BOOKS, MOVED_THREE, SHELF, SPREAD, STAR, STRIPES,
                           THREE, WEB_BOOKS, plain)

# Planes that all pass through the point of noughts, no three of them through a line.
BUNDLE = (3, (((1, 0, 0), 0), ((0, 1, 0), 0), ((0, 0, 1), 0), ((1, 1, 1), 0), ((1, 2, 4), 0)))
BOOKS_OF_FLATS = MORE_BOOKS + [BUNDLE]


class Flats(unittest.TestCase):
    def test_the_zeros_of_rows(self):
        for book in BOOKS_OF_FLATS:
            found = flats(book)
            self.assertIs(type(found), list)
            self.assertTrue(all(plain(flat) for flat in found))
            self.assertEqual(found, all_flats(book), book)

    def test_those_that_leave_most_free_first(self):
        self.assertEqual(flats(STAR), [(), (0,), (1,), (2,), (3,), (0, 1, 2, 3)])
        self.assertEqual(flats(STRIPES), [(), (0,), (1,), (2,)])
        self.assertEqual(flats((3, ())), [()])
        self.assertEqual(flats(CORNER), [(), (0,), (1,), (2,), (3,), (0, 1), (0, 2), (0, 3), (1, 2), (1, 3), (2, 3),
                                         (0, 1, 2, 3)])
        self.assertEqual(flats(WEB_BOOKS[2]), [(), (0,), (1,), (2,), (0, 1, 2)])
        frees = [left_free(SHELF, flat) for flat in flats(SHELF)]
        self.assertEqual(frees, [4] + [3] * 6 + [2] * 7 + [1])

    def test_as_tuples_among_those_that_leave_as_many(self):
        pencils = (3, (((1, 0, 0), 0), ((0, 1, 0), 0), ((1, 1, 0), 0), ((0, 0, 1), 0)))
        self.assertEqual(flats(pencils)[5:], [(0, 1, 2), (0, 3), (1, 3), (2, 3), (0, 1, 2, 3)])

    def test_moved_and_turned(self):
        for book in BOOKS_OF_FLATS:
            point = ((FORTY, 2), (-3, FORTY), (7, 5), (-1, 9))[:book[0]]
            self.assertEqual(flats(moved(book, point)), flats(book))
            for k in range(len(book[1])):
                self.assertEqual(flats(turned(book, k)), flats(book))
        self.assertEqual(flats(MOVED_THREE), flats(THREE))


class Closure(unittest.TestCase):
    def expected(self, book, some):
        above = [flat for flat in all_flats(book) if set(some) <= set(flat)]
        return min(above, key=len) if above else None

    def test_some_in_any_sequence_and_twice(self):
        for book in BOOKS_OF_FLATS:
            for many in range(4):
                every = list(product(range(len(book[1])), repeat=many))
                for some in every[::max(1, len(every) // 60)]:
                    found = closure(book, some)
                    self.assertEqual(found, self.expected(book, some), (book, some))
                    self.assertTrue(plain(found))

    def test_all_questions(self):
        for book in BOOKS_OF_FLATS:
            some = tuple(range(len(book[1])))[::-1]
            self.assertEqual(closure(book, some), self.expected(book, some))
            self.assertEqual(closure(book, some + some), self.expected(book, some))

    def test_told(self):
        self.assertEqual(closure(STAR, ()), ())
        self.assertEqual(closure((1, ()), ()), ())
        self.assertEqual(closure(STAR, (2, 1)), (0, 1, 2, 3))
        self.assertEqual(closure(STAR, (2, 2, 2)), (2,))
        self.assertEqual(closure(THREE, (2, 0, 2, 0)), (0, 2))
        self.assertEqual(closure(SHELF, (5, 0)), (0, 5))
        self.assertEqual(closure(SHELF, (3, 0)), (0, 1, 3))

    def test_no_point_meets_them_together(self):
        self.assertIsNone(closure(THREE, (0, 1, 2)))
        self.assertIsNone(closure(STRIPES, (2, 0)))
        self.assertIsNone(closure((3, (((1, -1, 0), 0), ((0, 1, -1), 0), ((1, 0, -1), 1))), (0, 1, 2)))
        self.assertEqual(closure((3, (((1, -1, 0), 0), ((0, 1, -1), 0), ((1, 0, -1), 1))), (2, 1)), (1, 2))


class Free(unittest.TestCase):
    def test_by_the_rank(self):
        for book in BOOKS_OF_FLATS:
            for flat in all_flats(book):
                self.assertEqual(free(book, flat), left_free(book, flat))

    def test_told(self):
        self.assertEqual([free((3, ()), ()), free(STAR, (0, 1, 2, 3)), free(SHELF, (0, 1, 2, 3, 4, 5))], [3, 0, 1])
        self.assertEqual([free(SHELF, (0, 5)), free(SHELF, (0, 1, 3)), free(SHELF, (4,))], [2, 2, 3])


class SignNumber(unittest.TestCase):
    def test_by_the_sums(self):
        for book in BOOKS_OF_FLATS:
            for flat, expected in all_sign_numbers(book).items():
                self.assertEqual(sign_number(book, flat), expected, (book, flat))

    def test_of_three_four_and_more_questions(self):
        self.assertEqual(sign_number(WEB_BOOKS[2], (0, 1, 2)), 2)
        self.assertEqual(sign_number(STAR, (0, 1, 2, 3)), 3)
        self.assertEqual(sign_number(CORNER, (0, 1, 2, 3)), -3)
        self.assertEqual(sign_number(SHELF, (0, 1, 2, 3, 4, 5)), -6)
        self.assertEqual(sign_number(BUNDLE, (0, 1, 2, 3, 4)), -6)
        self.assertEqual([sign_number(SHELF, flat) for flat in ((0, 5), (0, 1, 3), (0, 2, 4), (3, 4, 5))],
                         [1, 2, 2, 2])

    def test_of_few_questions(self):
        for book in BOOKS_OF_FLATS:
            self.assertEqual(sign_number(book, ()), 1)
            for k in range(len(book[1])):
                self.assertEqual(sign_number(book, (k,)), -1)
        self.assertEqual(sign_number(CROSS, (0, 1)), 1)
        self.assertEqual(sign_number(BOOKS[12], (0, 1, 2)), -1)


class FlatOf(unittest.TestCase):
    def test_rows(self):
        for book in BOOKS_OF_FLATS:
            for row in all_rows(book):
                found = flat_of(book, row)
                self.assertEqual(found, zero_set(row))
                self.assertTrue(plain(found))

    def test_told(self):
        self.assertEqual(flat_of(THREE, (0, 1, -1)), (0,))
        self.assertEqual(flat_of(THREE, (1, 1, 1)), ())
        self.assertEqual(flat_of(STAR, (0, 0, 0, 0)), (0, 1, 2, 3))
        self.assertEqual(flat_of((2, ()), ()), ())
        self.assertEqual(flat_of(SPREAD, (0, 0, 0, -1, -1)), (0, 1, 2))
        self.assertEqual(flat_of(BOOKS[2], (0, -1)), (0,))


if __name__ == "__main__":
    unittest.main()

"""Point [9], "counts" of [14], section sidebooks/polynomials.py: what is right."""

import unittest
from fractions import Fraction
from math import gcd

from sidebooks.books import is_book, moved, without
from sidebooks.polynomials import how_many, merged, polynomial, rows_by_free, value
from sidebooks.rows import full_rows, held_rows, noughts, rows
from tests.oracle import all_full, all_rows, counted, held, plain_question
from tests.samples import (BOOKS, CORNER, CROSS, FORTY, MORE_BOOKS, MOVED_THREE, SHELF, SPREAD, STAR, STRIPES,
                           THREE, WEB_BOOKS, plain)


def last_unknown(question):
    return max(k for k, side in enumerate(question[0]) if side != 0)


def merged_by_fractions(book, index):
    """The merged book: the unknown is taken out by fractions, which then are made whole and divided."""
    sides, wall = book[1][index]
    last = last_unknown(book[1][index])
    seen, kept = [], []
    for k, (others, other_wall) in enumerate(book[1]):
        share = Fraction(others[last], sides[last])
        left = [Fraction(b) - share * a for at, (a, b) in enumerate(zip(sides, others)) if at != last]
        left.append(other_wall - share * wall)
        whole = [int(x * abs(sides[last])) for x in left]
        if k != index and any(whole[:-1]):
            common = gcd(*whole)
            question = (tuple(x // common for x in whole[:-1]), whole[-1] // common)
            if plain_question(*question) not in seen:
                seen.append(plain_question(*question))
                kept.append(question)
    return (book[0] - 1, tuple(kept))


class Polynomial(unittest.TestCase):
    def test_flat_by_flat(self):
        for book in MORE_BOOKS:
            found = polynomial(book)
            self.assertEqual(found, counted(book), book)
            self.assertTrue(plain(found))
            self.assertEqual(len(found), book[0] + 1)

    def test_told(self):
        self.assertEqual(polynomial((1, ())), (1, 0))
        self.assertEqual(polynomial((3, ())), (1, 0, 0, 0))
        self.assertEqual(polynomial(BOOKS[1]), (1, -1))
        self.assertEqual(polynomial(BOOKS[3]), (1, -6))
        self.assertEqual(polynomial(CROSS), (1, -2, 1))
        self.assertEqual(polynomial(STAR), (1, -4, 3))
        self.assertEqual(polynomial(STRIPES), (1, -3, 0))
        self.assertEqual(polynomial(MOVED_THREE), (1, -3, 3))
        self.assertEqual(polynomial(CORNER), (1, -4, 6, -3))
        self.assertEqual(polynomial(WEB_BOOKS[2]), (1, -3, 2, 0))
        self.assertEqual(polynomial(SHELF), (1, -6, 11, -6, 0))

    def test_without_a_question_less_merged_by_it(self):
        for book in MORE_BOOKS:
            for k in range(len(book[1])):
                # Without unknowns there is but one flat, of all.
                less = (0,) + (polynomial(merged(book, k)) if book[0] > 1 else (1,))
                kept = polynomial(without(book, k))
                self.assertEqual(polynomial(book), tuple(a - b for a, b in zip(kept, less)), (book, k))


class Value(unittest.TestCase):
    def test_by_powers(self):
        for told in ((7,), (0,), (1, 0), (1, -3, 3), (-2, 0, 0, 5), (0, 0, 1, FORTY), (FORTY, -FORTY, 1, 1, 1, -9)):
            for t in (-100, -2, -1, 0, 1, 2, 3, 77, FORTY, -FORTY):
                expected = sum(a * t ** (len(told) - 1 - k) for k, a in enumerate(told))
                self.assertEqual(value(told, t), expected)

    def test_highest_power_first(self):
        self.assertEqual([value((1, 2, 3), t) for t in (0, 1, 10)], [3, 6, 123])

    def test_colours(self):
        self.assertEqual([value(polynomial(SHELF), k) for k in range(7)], [0, 0, 0, 0, 24, 120, 360])


class Merged(unittest.TestCase):
    def test_by_fractions(self):
        for book in MORE_BOOKS:
            if book[0] > 1:
                for k in range(len(book[1])):
                    found = merged(book, k)
                    self.assertEqual(found, merged_by_fractions(book, k), (book, k))
                    self.assertTrue(is_book(found) and plain(found))

    def test_its_rows_are_those_with_0(self):
        for book in (THREE, CROSS, SPREAD, BOOKS[12], BOOKS[8]):
            for k in range(len(book[1])):
                found = merged(book, k)
                on = [row for row in all_rows(book) if row[k] == 0]
                self.assertEqual(len(rows(found)), len(on), (book, k))
                if len(found[1]) == len(book[1]) - 1:
                    self.assertEqual(rows(found), [row[:k] + row[k + 1:] for row in on])

    def test_the_last_unknown_that_has_a_side(self):
        book = (3, (((2, 3, 0), 5), ((1, 1, 1), 1), ((0, 1, 0), 4)))
        self.assertEqual(merged(book, 0), (2, (((1, 3), -2), ((-2, 0), 7))))
        self.assertEqual(merged(book, 1), (2, (((2, 3), 5), ((0, 1), 4))))
        self.assertEqual(merged((3, (((4, 0, 0), 2), ((2, 5, 6), 1))), 0), (2, (((5, 6), 0),)))

    def test_each_keeps_its_sense(self):
        self.assertEqual(merged((2, (((0, -3), 6), ((1, 1), 0), ((-1, 2), 0))), 0), (1, (((1,), 2), ((-1,), 4))))
        self.assertEqual(merged((2, (((0, 3), 6), ((1, 1), 0), ((-1, 2), 0))), 0), (1, (((1,), -2), ((-1,), -4))))

    def test_a_question_loses_its_sides(self):
        self.assertEqual(merged(STRIPES, 1), (1, ()))
        self.assertEqual(merged((2, (((1, 1), 0), ((1, 1), 1), ((1, 0), 3))), 1), (1, (((1,), 3),)))

    def test_two_come_to_have_the_same_noughts(self):
        self.assertEqual(merged(STAR, 2), (1, (((1,), 1),)))
        self.assertEqual(merged(WEB_BOOKS[2], 0), (2, (((1, -1), 0),)))
        self.assertEqual(merged((2, (((1, 0), 1), ((0, 1), 2), ((1, 1), 3))), 2), (1, (((1,), 1),)))
        self.assertEqual(merged((2, (((0, 1), 2), ((1, 0), 1), ((1, 1), 3))), 2), (1, (((-1,), -1),)))

    def test_the_only_question(self):
        self.assertEqual(merged((2, (((0, -4), 2),)), 0), (1, ()))

    def test_of_many_figures(self):
        book = moved(SPREAD, ((FORTY, 3), (-1, FORTY), (5, 7)))
        for k in range(5):
            self.assertEqual(merged(book, k), merged_by_fractions(book, k))
            self.assertEqual(polynomial(merged(book, k)), polynomial(merged(SPREAD, k)))


class HowMany(unittest.TestCase):
    def test_by_the_lists(self):
        for book in MORE_BOOKS:
            found = how_many(book)
            self.assertEqual(found, (len(all_full(book)), len([row for row in all_full(book) if held(book, row)])))
            self.assertEqual(found, (len(full_rows(book)), len([row for row in held_rows(book) if 0 not in row])))
            self.assertTrue(plain(found))

    def test_told(self):
        self.assertEqual(how_many((2, ())), (1, 0))
        self.assertEqual(how_many(BOOKS[1]), (2, 0))
        self.assertEqual(how_many(BOOKS[3]), (7, 5))
        self.assertEqual(how_many(STRIPES), (4, 0))
        self.assertEqual(how_many(STAR), (8, 0))
        self.assertEqual(how_many(SPREAD), (26, 4))
        self.assertEqual(how_many(SHELF), (24, 0))

    def test_the_rank_below_the_unknowns(self):
        prism = (3, (((1, 0, 0), 0), ((0, 1, 0), 0), ((1, 1, 0), 1)))
        self.assertEqual(how_many(prism), (7, 0))
        self.assertEqual(value(polynomial(prism), 1), 1)


class RowsByFree(unittest.TestCase):
    def test_as_noughts_does(self):
        for book in MORE_BOOKS:
            found = rows_by_free(book)
            self.assertEqual(found, noughts(book), book)
            self.assertEqual(sum(found), len(all_rows(book)))
            self.assertTrue(plain(found))

    def test_told(self):
        self.assertEqual(rows_by_free((3, ())), (0, 0, 0, 1))
        self.assertEqual(rows_by_free(BOOKS[1]), (1, 2))
        self.assertEqual(rows_by_free(STAR), (1, 8, 8))
        self.assertEqual(rows_by_free(SHELF), (0, 1, 14, 36, 24))


if __name__ == "__main__":
    unittest.main()

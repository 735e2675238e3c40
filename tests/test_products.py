"""Point [7], "put together" of [14], section sidebooks/products.py: what is right."""

import unittest
from fractions import Fraction
from functools import reduce

from sidebooks.errors import NeverComes
from sidebooks.points import row_between, row_of
from sidebooks.products import above, ahead, ahead_all, is_under, parts
from sidebooks.rows import rows
from tests.oracle import all_rows, witnesses
from tests.samples import (BOOKS, CORNER, CROSS, MORE_BOOKS, SHELF, SPREAD, STAR, STRIPES, THREE, excess, number,
                           plain)


def put(one, other):
    return tuple(other[k] if one[k] == 0 else one[k] for k in range(len(one)))


def some_of(found, many):
    return found[::max(1, len(found) // many)]


class Ahead(unittest.TestCase):
    def test_pairs(self):
        for book in MORE_BOOKS:
            comes = set(all_rows(book))
            for one in some_of(all_rows(book), 14):
                for other in some_of(all_rows(book), 14):
                    found = ahead(book, one, other)
                    self.assertEqual(found, put(one, other))
                    self.assertIn(found, comes)
                    self.assertTrue(plain(found))

    def test_all_pairs_of_three(self):
        for one in all_rows(THREE):
            for other in all_rows(THREE):
                self.assertEqual(ahead(THREE, one, other), put(one, other))

    def test_near_to_the_first_ones_points(self):
        for book in (THREE, STAR, STRIPES, SPREAD, BOOKS[2]):
            shown = witnesses(book)
            for one in some_of(all_rows(book), 10):
                for other in some_of(all_rows(book), 10):
                    found = ahead(book, one, other)
                    self.assertEqual(found, row_between(book, shown[one], shown[other]))
                    self.assertEqual(found, row_of(book, self.near(book, shown[one], shown[other])))

    def near(self, book, one, other):
        """A point towards another one, nearer than any wall that is met on the way."""
        share = Fraction(1)
        for question in book[1]:
            start, end = excess(question, one), excess(question, other)
            if start != end and start / (start - end) > 0:
                share = min(share, start / (start - end) / 2)
        share = share / 10 ** 50
        return tuple(number(Fraction(*x) + share * (Fraction(*y) - Fraction(*x))) for x, y in zip(one, other))

    def test_ahead_of_itself(self):
        for book in MORE_BOOKS:
            for row in some_of(all_rows(book), 14):
                self.assertEqual(ahead(book, row, row), row)

    def test_three_in_a_row(self):
        for one in all_rows(CROSS):
            for other in all_rows(CROSS):
                for last in all_rows(CROSS):
                    left = ahead(CROSS, ahead(CROSS, one, other), last)
                    self.assertEqual(left, ahead(CROSS, one, ahead(CROSS, other, last)))

    def test_the_sequence_matters(self):
        self.assertEqual(ahead(THREE, (0, 1, -1), (1, -1, -1)), (1, 1, -1))
        self.assertEqual(ahead(THREE, (1, -1, -1), (0, 1, -1)), (1, -1, -1))

    def test_no_questions(self):
        self.assertEqual(ahead((2, ()), (), ()), ())


class AheadAll(unittest.TestCase):
    def test_none(self):
        for book in MORE_BOOKS:
            noughts = (0,) * len(book[1])
            for none in ([], ()):
                if noughts in all_rows(book):
                    self.assertEqual(ahead_all(book, none), noughts)
                else:
                    with self.assertRaises(NeverComes) as caught:
                        ahead_all(book, none)
                    self.assertEqual(caught.exception.value, noughts)
        self.assertEqual(ahead_all(STAR, []), (0, 0, 0, 0))
        self.assertRaises(NeverComes, ahead_all, THREE, [])
        self.assertRaises(NeverComes, ahead_all, STRIPES, ())

    def test_one(self):
        for book in (THREE, STRIPES, SHELF):
            for row in all_rows(book)[::4]:
                self.assertEqual(ahead_all(book, [row]), row)
                self.assertEqual(ahead_all(book, (row,)), row)

    def test_many(self):
        for book in MORE_BOOKS:
            found = all_rows(book)
            for k in range(1, min(6, len(found))):
                some = (found[k::k + 2] + found[:k])[:7]
                expected = reduce(put, some)
                self.assertEqual(ahead_all(book, some), expected)
                self.assertEqual(ahead_all(book, tuple(some)), expected)
                self.assertTrue(plain(ahead_all(book, some)))

    def test_the_first_ahead_of_the_second(self):
        self.assertEqual(ahead_all(CROSS, [(0, 0), (0, 1), (-1, -1)]), (-1, 1))
        self.assertEqual(ahead_all(CROSS, [(-1, -1), (0, 1), (0, 0)]), (-1, -1))
        self.assertEqual(ahead_all(SHELF, [(0,) * 6, (1, 1, 0, 0, -1, -1), (-1,) * 6]), (1, 1, -1, -1, -1, -1))


class Parts(unittest.TestCase):
    def test_pairs(self):
        for book in MORE_BOOKS:
            for one in some_of(all_rows(book), 14):
                for other in some_of(all_rows(book), 14):
                    found = parts(book, one, other)
                    expected = tuple(k for k in range(len(one)) if {one[k], other[k]} == {-1, 1})
                    self.assertEqual(found, expected)
                    self.assertTrue(plain(found))

    def test_noughts_part_nothing(self):
        self.assertEqual(parts(THREE, (0, 1, -1), (1, -1, -1)), (1,))
        self.assertEqual(parts(CROSS, (0, 0), (1, -1)), ())
        self.assertEqual(parts(CROSS, (-1, 1), (1, -1)), (0, 1))


class IsUnderAndAbove(unittest.TestCase):
    def test_pairs(self):
        for book in MORE_BOOKS:
            for one in some_of(all_rows(book), 14):
                for other in some_of(all_rows(book), 14):
                    self.assertIs(is_under(book, one, other), put(one, other) == other)

    def test_one_way_alone(self):
        self.assertIs(is_under(CROSS, (0, 1), (-1, 1)), True)
        self.assertIs(is_under(CROSS, (-1, 1), (0, 1)), False)
        self.assertIs(is_under(CROSS, (0, 1), (1, -1)), False)
        self.assertIs(is_under(CROSS, (0, 0), (1, -1)), True)

    def test_above(self):
        for book in MORE_BOOKS:
            for row in some_of(all_rows(book), 12):
                found = above(book, row)
                self.assertIs(type(found), list)
                self.assertEqual(found, [other for other in all_rows(book) if put(row, other) == other])
                self.assertIn(row, found)

    def test_above_noughts_are_all(self):
        for book in (CROSS, STAR, CORNER, SHELF):
            self.assertEqual(above(book, (0,) * len(book[1])), rows(book))
        self.assertEqual(above((1, ()), ()), [()])

    def test_above_a_full_row_is_itself(self):
        for book in (THREE, STAR, SHELF):
            for row in all_rows(book):
                self.assertIs(above(book, row) == [row], 0 not in row)


if __name__ == "__main__":
    unittest.main()

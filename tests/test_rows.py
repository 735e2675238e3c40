"""Point [5], "rows" of [14], section sidebooks/rows.py: what is right."""

import unittest
from fractions import Fraction
from itertools import product

from sidebooks.books import moved, turned, without
from sidebooks.papers import comes
from sidebooks.points import row_of
from sidebooks.rows import first_row, full_rows, held_rows, is_held, noughts, rows, walls
from tests.oracle import all_full, all_rows, fitting, held, left_free, witnesses, zero_set
from tests.samples import (BOOKS, CORNER, CROSS, FORTY, MORE_BOOKS, MOVED_THREE, SHELF, SMALL_BOOKS, SPREAD, STAR,
                           STRIPES, THREE, WEB_BOOKS, number, plain, web_book)


def changed(row, k):
    return row[:k] + (-row[k],) + row[k + 1:]


class Rows(unittest.TestCase):
    def test_all_that_come_each_once_ascending(self):
        for book in MORE_BOOKS:
            found = rows(book)
            self.assertIs(type(found), list)
            self.assertTrue(all(plain(row) for row in found))
            self.assertEqual(found, sorted(set(found)))
            self.assertEqual(found, all_rows(book), book)

    def test_just_those_whose_wish_comes(self):
        for book in MORE_BOOKS:
            every = list(product((-1, 0, 1), repeat=len(book[1])))
            some = every if len(every) < 100 else every[::3]
            told = set(rows(book))
            self.assertEqual([row for row in some if row in told], [row for row in some if comes(book, row)])

    def test_no_questions(self):
        for d in (1, 2, 3):
            self.assertEqual([rows((d, ())), full_rows((d, ())), held_rows((d, ()))], [[()], [()], []])

    def test_one_question(self):
        for book in (BOOKS[1], BOOKS[5], BOOKS[11], (3, (((0, -7, 2), 9),))):
            self.assertEqual(rows((book[0], book[1][:1])), [(-1,), (0,), (1,)])

    def test_parallel_ones(self):
        self.assertEqual(rows((1, (((1,), 0), ((1,), 1)))), [(-1, -1), (0, -1), (1, -1), (1, 0), (1, 1)])
        self.assertEqual(len(rows(STRIPES)), 7)
        self.assertEqual(len(rows(BOOKS[3])), 13)

    def test_orders_of_things(self):
        self.assertEqual([len(rows(web_book(n, [(i, j) for i in range(n) for j in range(i + 1, n)])))
                          for n in (1, 2, 3, 4)], [1, 3, 13, 75])
        self.assertEqual(len(full_rows(SHELF)), 24)

    def test_moved_turned_and_without(self):
        for book in (THREE, STAR, CORNER, SPREAD, BOOKS[9]):
            point = ((FORTY, 3), (-1, FORTY), (FORTY + 1, FORTY))[:book[0]]
            self.assertEqual(rows(moved(book, point)), rows(book))
            for k in range(len(book[1])):
                self.assertEqual(rows(turned(book, k)), sorted(changed(row, k) for row in rows(book)))
                self.assertEqual(rows(without(book, k)), sorted({row[:k] + row[k + 1:] for row in rows(book)}))
        self.assertEqual(rows(MOVED_THREE), rows(THREE))


class FullRows(unittest.TestCase):
    def test_those_without_0(self):
        for book in MORE_BOOKS:
            found = full_rows(book)
            self.assertIs(type(found), list)
            self.assertEqual(found, all_full(book))
            self.assertEqual(found, [row for row in rows(book) if 0 not in row])

    def test_how_many(self):
        self.assertEqual([len(full_rows(book)) for book in (THREE, CROSS, STAR, STRIPES, CORNER)], [7, 4, 8, 4, 14])


class HeldRows(unittest.TestCase):
    def test_by_ways_that_go_on(self):
        for book in MORE_BOOKS:
            found = held_rows(book)
            self.assertIs(type(found), list)
            self.assertEqual(found, [row for row in all_rows(book) if held(book, row)], book)
            for row in rows(book)[::4]:
                self.assertIs(is_held(book, row), row in found)

    def test_all_rows_of_small_books(self):
        for book in SMALL_BOOKS:
            told = held_rows(book)
            for row in rows(book):
                self.assertIs(is_held(book, row), row in told)

    def test_rows_that_are_not_held_have_points_far_off(self):
        for book in SMALL_BOOKS:
            leads = witnesses((book[0], tuple((sides, 0) for sides, _ in book[1])))
            told = held_rows(book)
            for row, point in witnesses(book).items():
                kept = [way for way in leads if any(way) and all(w in (0, a) for w, a in zip(way, row))]
                if kept:
                    self.assertNotIn(row, told)
                    far = [number(Fraction(*x) + FORTY ** 4 * Fraction(*y)) for x, y in zip(point, leads[kept[0]])]
                    self.assertGreater(max(abs(Fraction(*x)) for x in far), 10 ** 20)
                    self.assertEqual(row_of(book, tuple(far)), row)

    def test_held_rows_have_none_far_off(self):
        for book in SMALL_BOOKS[:-1]:
            told = held_rows(book)
            for k in range(book[0]):
                for far in (-10 ** 6, 10 ** 6):
                    beyond = (tuple(int(k == at) for at in range(book[0])), far)
                    shown = all_rows((book[0], book[1] + (beyond,)))
                    self.assertEqual([row for row in shown if row[:-1] in told and (row[-1] > 0) == (far > 0)], [])

    def test_none(self):
        for book in [BOOKS[0], BOOKS[4], BOOKS[5], BOOKS[7], BOOKS[13], STRIPES] + WEB_BOOKS:
            self.assertEqual(held_rows(book), [])
            self.assertEqual([is_held(book, row) for row in rows(book)], [False] * len(rows(book)))

    def test_single_points_alone(self):
        self.assertEqual(held_rows(BOOKS[1]), [(0,)])
        self.assertEqual(held_rows(CROSS), [(0, 0)])
        self.assertEqual(held_rows(STAR), [(0, 0, 0, 0)])
        self.assertEqual(held_rows(CORNER), [(0, 0, 0, 0)])
        self.assertEqual(held_rows(BOOKS[12]), [(0, 0, 0)])

    def test_some(self):
        self.assertEqual(held_rows((1, (((1,), 0), ((1,), 1)))), [(0, -1), (1, -1), (1, 0)])
        self.assertEqual(held_rows((1, (((1,), 0), ((-1,), -1)))), [(0, 1), (1, 0), (1, 1)])
        triangle = [(0, 0, -1), (0, 1, -1), (0, 1, 0), (1, 0, -1), (1, 0, 0), (1, 1, -1), (1, 1, 0)]
        self.assertEqual(held_rows(THREE), triangle)
        self.assertEqual(held_rows(MOVED_THREE), triangle)

    def test_a_strip_is_not_held(self):
        strip = (2, (((1, 0), 0), ((1, 0), 1), ((0, 1), 0)))
        self.assertEqual(held_rows(strip), [(0, -1, 0), (1, -1, 0), (1, 0, 0)])
        box = (2, strip[1] + (((0, 1), 1),))
        self.assertIs(is_held(box, (1, -1, 1, -1)), True)
        self.assertIs(is_held(box, (1, -1, 1, 1)), False)
        self.assertIs(is_held(box, (1, -1, 1, 0)), True)


class Noughts(unittest.TestCase):
    def test_by_the_rank_of_the_zeros(self):
        for book in MORE_BOOKS:
            expected = [0] * (book[0] + 1)
            for row in all_rows(book):
                expected[left_free(book, zero_set(row))] += 1
            found = noughts(book)
            self.assertEqual(found, tuple(expected), book)
            self.assertTrue(plain(found))
            self.assertEqual(sum(found), len(rows(book)))
            self.assertEqual(found[-1], len(full_rows(book)))

    def test_told(self):
        self.assertEqual(noughts((3, ())), (0, 0, 0, 1))
        self.assertEqual(noughts(BOOKS[1]), (1, 2))
        self.assertEqual(noughts(STAR), (1, 8, 8))
        self.assertEqual(noughts(STRIPES), (0, 3, 4))
        self.assertEqual(noughts(BOOKS[12]), (1, 6, 12, 8))
        self.assertEqual(noughts(SHELF), (0, 1, 14, 36, 24))


class Walls(unittest.TestCase):
    def test_one_answer_exchanged(self):
        for book in MORE_BOOKS:
            full = set(all_full(book))
            for row in sorted(full):
                expected = tuple(k for k in range(len(row)) if changed(row, k) in full)
                found = walls(book, row)
                self.assertEqual(found, expected, (book, row))
                self.assertTrue(plain(found))

    def test_told(self):
        self.assertEqual(walls((2, ()), ()), ())
        self.assertEqual(walls(BOOKS[1], (1,)), (0,))
        self.assertEqual(walls(STRIPES, (-1, -1, -1)), (0, 2))
        self.assertEqual(walls(SHELF, (-1,) * 6), (0, 3, 5))
        self.assertEqual(walls(THREE, (-1, -1, -1)), (0, 1))


class FirstRow(unittest.TestCase):
    def test_of_all_that_fit(self):
        for book in MORE_BOOKS:
            every = list(product((None, -1, 0, 1), repeat=len(book[1])))
            for wish in every[::max(1, len(every) // 100)]:
                fit = fitting(book, wish)
                found = first_row(book, wish)
                self.assertEqual(found, fit[0] if fit else None, (book, wish))
                self.assertTrue(plain(found))

    def test_none_alone(self):
        for book in MORE_BOOKS:
            self.assertEqual(first_row(book, (None,) * len(book[1])), rows(book)[0])

    def test_a_row_is_its_own(self):
        for book in SMALL_BOOKS:
            for row in product((-1, 0, 1), repeat=len(book[1])):
                self.assertEqual(first_row(book, row), row if row in all_rows(book) else None)


if __name__ == "__main__":
    unittest.main()

"""Point [10], "roads" of [14], section sidebooks/roads.py: what is right."""

import unittest
from itertools import product

from sidebooks.books import moved
from sidebooks.products import parts
from sidebooks.roads import farthest, how_many_roads, is_road, next_steps, roads, steps
from sidebooks.rows import full_rows, walls
from tests.oracle import all_full, all_least_roads
from tests.samples import (BOOKS, CORNER, CROSS, FORTY, MORE_BOOKS, MOVED_THREE, SHELF, SPREAD, STAR, STRIPES,
                           THREE, WEB_BOOKS, plain)

LINE = (1, (((1,), 0), ((1,), 1), ((1,), 2)))


def pairs_of(book, many=40):
    found = list(product(all_full(book), repeat=2))
    return found[::max(1, len(found) // many)] + found[-1:]


def leads(book, one, other, told):
    """True if each row on the way comes and the last one is the other."""
    row = one
    for k in told:
        row = row[:k] + (-row[k],) + row[k + 1:]
        if row not in all_full(book):
            return False
    return row == other


class Roads(unittest.TestCase):
    def test_the_told_ones_are_all_there_are(self):
        for book in MORE_BOOKS:
            for one, other in pairs_of(book):
                expected = all_least_roads(book, one, other)
                found = roads(book, one, other)
                self.assertIs(type(found), list)
                self.assertTrue(all(plain(road) for road in found))
                self.assertEqual(found, expected, (book, one, other))
                self.assertEqual(how_many_roads(book, one, other), len(expected))
                self.assertEqual(next_steps(book, one, other), tuple(sorted({road[0] for road in expected if road})))
                self.assertTrue(plain(next_steps(book, one, other)))

    def test_there_is_always_one_of_just_the_parts(self):
        for book in MORE_BOOKS:
            for one, other in pairs_of(book, 30):
                apart = parts(book, one, other)
                found = roads(book, one, other)
                self.assertTrue(found)
                self.assertEqual({tuple(sorted(road)) for road in found}, {apart})
                self.assertEqual(steps(book, one, other), len(apart))

    def test_as_many_back(self):
        for book in (THREE, STAR, SPREAD, SHELF):
            for one, other in pairs_of(book):
                self.assertEqual(roads(book, other, one), sorted(road[::-1] for road in roads(book, one, other)))

    def test_from_a_row_to_itself(self):
        for book in MORE_BOOKS:
            for row in full_rows(book)[:5]:
                self.assertEqual(steps(book, row, row), 0)
                self.assertEqual(next_steps(book, row, row), ())
                self.assertEqual(roads(book, row, row), [()])
                self.assertEqual(how_many_roads(book, row, row), 1)
                self.assertIs(is_road(book, row, row, ()), True)

    def test_told(self):
        self.assertEqual(roads(LINE, (-1, -1, -1), (1, 1, 1)), [(0, 1, 2)])
        self.assertEqual(roads(LINE, (1, 1, 1), (1, -1, -1)), [(2, 1)])
        self.assertEqual(roads(CROSS, (1, -1), (-1, 1)), [(0, 1), (1, 0)])
        self.assertEqual(how_many_roads(SHELF, (-1,) * 6, (1,) * 6), 16)
        self.assertEqual(how_many_roads(BOOKS[12], (-1, 1, -1), (1, -1, 1)), 6)
        self.assertEqual(roads(WEB_BOOKS[2], (-1, -1, -1), (1, 1, 1)), [(0, 1, 2), (2, 1, 0)])

    def test_moved(self):
        for book in (THREE, STAR, SPREAD):
            other = moved(book, ((FORTY, 2), (-3, FORTY), (7, 5))[:book[0]])
            for one, last in pairs_of(book, 20):
                self.assertEqual(roads(other, one, last), roads(book, one, last))


class NextSteps(unittest.TestCase):
    def test_walls_that_part(self):
        for book in MORE_BOOKS:
            for one, other in pairs_of(book, 30):
                expected = tuple(k for k in walls(book, one) if k in parts(book, one, other))
                self.assertEqual(next_steps(book, one, other), expected)

    def test_told(self):
        self.assertEqual(next_steps(LINE, (1, -1, -1), (1, 1, 1)), (1,))
        self.assertEqual(next_steps(THREE, (-1, -1, -1), (1, 1, 1)), (0, 1))
        self.assertEqual(next_steps(CORNER, (-1, -1, -1, 1), (-1, -1, -1, -1)), (3,))


class IsRoad(unittest.TestCase):
    def test_all_short_ones(self):
        for book in (THREE, STRIPES, CROSS, LINE, WEB_BOOKS[2]):
            for one, other in product(all_full(book), repeat=2):
                for many in range(4):
                    for told in product(range(len(book[1])), repeat=many):
                        self.assertIs(is_road(book, one, other, told), leads(book, one, other, told))

    def test_least_ones(self):
        for book in MORE_BOOKS:
            for one, other in pairs_of(book, 12):
                for road in roads(book, one, other)[:6]:
                    self.assertIs(is_road(book, one, other, road), True)
                    self.assertIs(is_road(book, one, other, road[1:]), road == ())
                    self.assertIs(is_road(book, one, other, road[::-1]), leads(book, one, other, road[::-1]))

    def test_that_go_round(self):
        self.assertIs(is_road(THREE, (1, 1, -1), (1, 1, 1), (0, 2, 0)), True)
        self.assertIs(is_road(THREE, (1, 1, -1), (1, 1, 1), (2, 2, 2)), True)
        self.assertIs(is_road(STRIPES, (1, -1, -1), (1, -1, -1), (1, 1, 0, 0)), True)
        self.assertIs(is_road(STRIPES, (1, -1, -1), (1, -1, -1), (2, 2)), False)
        self.assertIs(is_road(CROSS, (1, 1), (1, 1), (0, 1, 0, 1)), True)
        self.assertIs(is_road(CROSS, (1, 1), (1, 1), (0, 1, 0)), False)
        self.assertIs(is_road(CROSS, (1, 1), (1, 1), (0, 1) * 50), True)

    def test_a_row_on_the_way_that_never_comes(self):
        self.assertIs(is_road(LINE, (-1, -1, -1), (1, 1, -1), (1, 0)), False)
        self.assertIs(is_road(LINE, (-1, -1, -1), (1, 1, -1), (0, 1)), True)
        self.assertIs(is_road(THREE, (-1, -1, -1), (1, 1, 1), (2, 0, 1)), False)

    def test_to_another_row(self):
        self.assertIs(is_road(LINE, (-1, -1, -1), (1, 1, 1), (0, 1)), False)
        self.assertIs(is_road(LINE, (-1, -1, -1), (1, 1, 1), ()), False)


class Farthest(unittest.TestCase):
    def test_by_all_pairs(self):
        for book in MORE_BOOKS:
            found = farthest(book)
            every = [(sum(a != b for a, b in zip(one, other)), one, other)
                     for one, other in product(all_full(book), repeat=2)]
            most = max(far for far, _, _ in every)
            self.assertEqual(found, min(told for told in every if told[0] == most), book)
            self.assertTrue(plain(found))

    def test_no_questions(self):
        for d in (1, 2, 3):
            self.assertEqual(farthest((d, ())), (0, (), ()))

    def test_told(self):
        self.assertEqual(farthest(LINE), (3, (-1, -1, -1), (1, 1, 1)))
        self.assertEqual(farthest(MOVED_THREE), (3, (-1, -1, -1), (1, 1, 1)))
        self.assertEqual(farthest(BOOKS[1]), (1, (-1,), (1,)))
        self.assertEqual(farthest(SHELF), (6, (-1,) * 6, (1,) * 6))
        self.assertEqual(farthest((2, (((1, 0), 0), ((-1, 0), 1)))), (2, (-1, 1), (1, -1)))


if __name__ == "__main__":
    unittest.main()

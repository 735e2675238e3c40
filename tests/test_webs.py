"""Point [12], "webs" of [14], section sidebooks/webs.py: what is right."""

import unittest
from itertools import combinations, permutations, product

from sidebooks.books import is_book
from sidebooks.errors import HasRound
from sidebooks.polynomials import how_many
from sidebooks.rows import full_rows, rows
from sidebooks.webs import (arrows, book_of, colourings, is_web, order_of, rounds, row_of, row_of_order, shelf,
                            to_front)
from tests.oracle import all_full, all_rows
from tests.samples import plain, web_book

PAIRS = {n: list(combinations(range(n), 2)) for n in range(1, 6)}
WEBS = [(n, ties) for n in range(1, 5) for many in range(len(PAIRS[n]) + 1) for ties in combinations(PAIRS[n], many)]
RING = (5, ((0, 1), (0, 4), (1, 2), (2, 3), (3, 4)))


def directions(web):
    return list(product(*[((i, j), (j, i)) for i, j in web[1]]))


def all_rounds(web, told):
    """All rounds of a direction, each beginning with its least thing: the shortest first, then the least."""
    found = []
    for many in range(2, web[0] + 1):
        for things in permutations(range(web[0]), many):
            if things[0] == min(things) and all(pair in told for pair in zip(things, things[1:] + things[:1])):
                found.append(things)
    return found


def coloured(web, k):
    return sum(all(told[i] != told[j] for i, j in web[1]) for told in product(range(k), repeat=web[0]))


def sign_of(a, b):
    return (a > b) - (a < b)


class Webs(unittest.TestCase):
    def test_is_web(self):
        for web in WEBS + [RING]:
            self.assertIs(is_web(web), True)

    def test_book_of(self):
        for web in WEBS + [RING]:
            found = book_of(web)
            self.assertEqual(found, web_book(*web))
            self.assertTrue(plain(found))
            self.assertIs(is_book(found), True)

    def test_book_of_told(self):
        self.assertEqual(book_of((1, ())), (1, ()))
        self.assertEqual(book_of((3, ((0, 2),))), (3, (((1, 0, -1), 0),)))
        self.assertEqual(book_of((2, ((0, 1),))), (2, (((1, -1), 0),)))


class Arrows(unittest.TestCase):
    def test_there_and_back(self):
        for web in WEBS + [RING]:
            for row in full_rows(book_of(web)):
                told = arrows(web, row)
                self.assertTrue(plain(told))
                self.assertEqual(told, tuple((i, j) if a == -1 else (j, i) for (i, j), a in zip(web[1], row)))
                self.assertEqual(row_of(web, told), row)

    def test_told(self):
        self.assertEqual(arrows((1, ()), ()), ())
        self.assertEqual(arrows((2, ((0, 1),)), (-1,)), ((0, 1),))
        self.assertEqual(arrows((2, ((0, 1),)), (1,)), ((1, 0),))
        self.assertEqual(arrows((3, ((0, 1), (1, 2))), (1, -1)), ((1, 0), (1, 2)))
        self.assertEqual(row_of((3, ((0, 1), (1, 2))), ((0, 1), (2, 1))), (-1, 1))

    def test_just_the_directions_without_a_round(self):
        for web in WEBS:
            found = []
            for told in directions(web):
                if rounds(web, told) is None:
                    row = row_of(web, told)
                    self.assertTrue(plain(row))
                    self.assertEqual(arrows(web, row), told)
                    found.append(row)
                else:
                    with self.assertRaises(HasRound) as caught:
                        row_of(web, told)
                    self.assertEqual(caught.exception.value, rounds(web, told))
            self.assertEqual(sorted(found), full_rows(book_of(web)))
            self.assertEqual(sorted(found), all_full(book_of(web)))
            self.assertEqual(len(found), how_many(book_of(web))[0])


class Rounds(unittest.TestCase):
    def test_the_first_of_all(self):
        for web in WEBS + [RING]:
            for told in directions(web):
                found = rounds(web, told)
                every = all_rounds(web, told)
                self.assertEqual(found, every[0] if every else None, (web, told))
                self.assertTrue(plain(found))

    def test_of_five_things(self):
        web = shelf(5)
        for told in directions(web)[::13]:
            every = all_rounds(web, told)
            self.assertEqual(rounds(web, told), every[0] if every else None)

    def test_several_of_one_length(self):
        ties = shelf(4)[1]
        told = ((1, 0), (0, 2), (0, 3), (2, 1), (3, 1), (2, 3))
        self.assertEqual([pair in ties or pair[::-1] in ties for pair in told], [True] * 6)
        self.assertEqual(all_rounds((4, ties), told)[:2], [(0, 2, 1), (0, 3, 1)])
        self.assertEqual(rounds((4, ties), told), (0, 2, 1))

    def test_a_shorter_one_that_begins_later(self):
        web = (5, ((0, 1), (0, 4), (1, 2), (2, 3), (2, 4), (3, 4)))
        told = ((0, 1), (4, 0), (1, 2), (2, 3), (4, 2), (3, 4))
        self.assertEqual(rounds(web, told), (2, 3, 4))
        self.assertEqual(rounds(RING, ((0, 1), (4, 0), (1, 2), (2, 3), (3, 4))), (0, 1, 2, 3, 4))
        self.assertEqual(rounds(RING, ((1, 0), (0, 4), (2, 1), (3, 2), (4, 3))), (0, 4, 3, 2, 1))

    def test_none(self):
        self.assertIsNone(rounds((1, ()), ()))
        self.assertIsNone(rounds((3, ((0, 1), (1, 2))), ((0, 1), (1, 2))))
        self.assertIsNone(rounds(RING, RING[1]))


class Colourings(unittest.TestCase):
    def test_one_by_one(self):
        for web in WEBS:
            for k in range(5):
                found = colourings(web, k)
                self.assertEqual(found, coloured(web, k), (web, k))
                self.assertIs(type(found), int)
        self.assertEqual([colourings(RING, k) for k in range(5)], [coloured(RING, k) for k in range(5)])

    def test_told(self):
        self.assertEqual([colourings((1, ()), k) for k in (0, 1, 2, 100)], [0, 1, 2, 100])
        self.assertEqual([colourings((4, ()), k) for k in (0, 1, 2, 100)], [0, 1, 16, 10 ** 8])
        self.assertEqual([colourings(shelf(4), k) for k in (0, 1, 3, 4, 100)], [0, 0, 0, 24, 100 * 99 * 98 * 97])
        self.assertEqual([colourings((3, ((0, 1), (1, 2))), k) for k in (0, 1, 2, 100)], [0, 0, 2, 100 * 99 * 99])


class Shelves(unittest.TestCase):
    def test_all_ties(self):
        for n in range(1, 6):
            self.assertEqual(shelf(n), (n, tuple(PAIRS[n])))
            self.assertTrue(plain(shelf(n)))
            self.assertIs(is_web(shelf(n)), True)

    def test_to_front(self):
        for n in range(1, 6):
            for i in range(n):
                found = to_front(n, i)
                numbers = [0 if k == i else 1 for k in range(n)]
                self.assertEqual(found, tuple(sign_of(numbers[a], numbers[b]) for a, b in PAIRS[n]))
                self.assertTrue(plain(found))
        self.assertEqual(to_front(1, 0), ())
        self.assertEqual(to_front(2, 0), (-1,))
        self.assertEqual(to_front(2, 1), (1,))

    def test_to_front_as_an_order(self):
        for n in range(2, 6):
            for i in range(n):
                self.assertEqual(order_of(n, to_front(n, i)), ((i,), tuple(k for k in range(n) if k != i)))

    def test_orders_there_and_back(self):
        for n in range(1, 5):
            found = rows(book_of(shelf(n)))
            self.assertEqual(found, all_rows(web_book(n, PAIRS[n])))
            orders = [order_of(n, row) for row in found]
            self.assertEqual([row_of_order(n, order) for order in orders], found)
            self.assertEqual(len(set(orders)), (1, 3, 13, 75)[n - 1])
            self.assertTrue(plain(tuple(orders)))
            for row, order in zip(found, orders):
                at = {thing: place for place, equal in enumerate(order) for thing in equal}
                self.assertEqual(row, tuple(sign_of(at[i], at[j]) for i, j in PAIRS[n]))
                self.assertEqual([list(equal) for equal in order], [sorted(equal) for equal in order])
                self.assertEqual(sorted(thing for equal in order for thing in equal), list(range(n)))

    def test_all_orders(self):
        for n in range(1, 5):
            orders = set()
            for places in product(range(n), repeat=n):
                classes = [tuple(k for k in range(n) if places[k] == place) for place in range(n)]
                orders.add(tuple(equal for equal in classes if equal))
            rows_told = [row_of_order(n, order) for order in sorted(orders)]
            self.assertTrue(plain(tuple(rows_told)))
            self.assertEqual(sorted(rows_told), all_rows(web_book(n, PAIRS[n])))
            self.assertEqual([order_of(n, row) for row in rows_told], sorted(orders))

    def test_one_class_alone(self):
        for n in range(1, 6):
            alone = (tuple(range(n)),)
            self.assertEqual(row_of_order(n, alone), (0,) * len(PAIRS[n]))
            self.assertEqual(order_of(n, (0,) * len(PAIRS[n])), alone)
        self.assertEqual(order_of(1, ()), ((0,),))

    def test_told(self):
        self.assertEqual(row_of_order(4, ((2, 3), (0,), (1,))), (-1, 1, 1, 1, 1, 0))
        self.assertEqual(order_of(4, (-1, 1, 1, 1, 1, 0)), ((2, 3), (0,), (1,)))
        self.assertEqual(order_of(3, (-1, -1, -1)), ((0,), (1,), (2,)))


if __name__ == "__main__":
    unittest.main()

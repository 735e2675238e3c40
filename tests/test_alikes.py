"""Points [5] and "books alike" of [14], section sidebooks/alikes.py: what is right."""

import unittest
from itertools import combinations, permutations, product

from sidebooks.alikes import alike_by, barred, unlike
from sidebooks.books import book, moved, turned, without
from sidebooks.papers import comes
from sidebooks.rows import full_rows, rows
from tests.oracle import all_barred, all_rows, first_leading
from tests.samples import (BOOKS, CORNER, CROSS, FORTY, MORE_BOOKS, MOVED_THREE, SHELF, SPREAD, STAR, STRIPES,
                           THREE, WEB_BOOKS, plain, web_book)

FEW = [one for one in MORE_BOOKS if len(one[1]) <= 5]


def led(found, sequence, signs):
    return sorted(tuple(s * row[k] for k, s in zip(sequence, signs)) for row in found)


def resorted(told, sequence, turns=()):
    """The book with its questions in another sequence, some of them turned then."""
    other = (told[0], tuple(told[1][k] for k in sequence))
    for k in turns:
        other = turned(other, k)
    return other


class Unlike(unittest.TestCase):
    def test_all_pairs(self):
        for one, other in product(FEW, repeat=2):
            if len(one[1]) == len(other[1]):
                apart = sorted(set(all_rows(one)) ^ set(all_rows(other)))
                found = unlike(one, other)
                self.assertEqual(found, apart[0] if apart else None, (one, other))
                self.assertTrue(plain(found))

    def test_a_book_and_itself(self):
        for told in MORE_BOOKS:
            self.assertIsNone(unlike(told, told))

    def test_moved(self):
        for told in FEW:
            point = ((FORTY, 2), (-3, FORTY), (7, 5), (-1, 9))[:told[0]]
            self.assertIsNone(unlike(told, moved(told, point)))
            self.assertIsNone(unlike(moved(told, point), told))
        self.assertIsNone(unlike(THREE, MOVED_THREE))

    def test_another_number_of_unknowns(self):
        self.assertIsNone(unlike((1, ()), (3, ())))
        self.assertIsNone(unlike((1, (((5,), 2),)), (3, (((0, 1, 1), 0),))))
        self.assertIsNone(unlike(STRIPES, (1, (((1,), 0), ((1,), 1), ((-1,), 7)))))
        self.assertIsNone(unlike(CROSS, (3, (((1, 1, 1), 4), ((1, 2, 3), 5)))))
        self.assertEqual(unlike(CROSS, (1, (((1,), 0), ((1,), 1)))), (-1, 0))

    def test_turned(self):
        self.assertEqual(unlike(THREE, turned(THREE, 0)), (-1, -1, 0))
        self.assertEqual(unlike(turned(THREE, 0), THREE), (-1, -1, 0))
        self.assertIsNone(unlike(CROSS, turned(CROSS, 1)))

    def test_books_that_differ_in_one_full_row(self):
        other = (2, THREE[1][:2] + (((1, 1), -1),))
        self.assertEqual(set(full_rows(THREE)) - set(full_rows(other)), {(1, 1, -1)})
        self.assertEqual(set(full_rows(other)) - set(full_rows(THREE)), {(-1, -1, 1)})
        self.assertEqual(unlike(THREE, other), (-1, -1, 0))
        self.assertEqual(unlike(other, THREE), (-1, -1, 0))
        self.assertEqual(unlike(turned(THREE, 0), turned(other, 0)), (-1, 0, -1))
        self.assertEqual(unlike(turned(turned(THREE, 0), 2), turned(turned(other, 0), 2)), (-1, 0, 0))

    def test_the_first_row_that_just_one_has(self):
        through = (2, THREE[1][:2] + (((1, 1), 0),))
        self.assertEqual(unlike(THREE, through), (0, 0, -1))
        self.assertIn((0, 0, -1), rows(THREE))
        self.assertNotIn((0, 0, -1), rows(through))


class AlikeBy(unittest.TestCase):
    def judge(self, one, other):
        found = alike_by(one, other)
        self.assertEqual(found, first_leading(one, other), (one, other))
        self.assertTrue(plain(found))
        return found

    def test_all_pairs(self):
        few = [told for told in FEW if len(told[1]) <= 4]
        for one, other in product(few, repeat=2):
            if len(one[1]) == len(other[1]):
                self.judge(one, other)

    def test_another_sequence(self):
        for told in (THREE, STRIPES, STAR, CORNER, WEB_BOOKS[4], BOOKS[2]):
            for sequence in permutations(range(len(told[1]))):
                self.assertIsNotNone(self.judge(told, resorted(told, sequence)))

    def test_another_sequence_and_turned(self):
        for told in (THREE, STRIPES, STAR):
            for sequence in list(permutations(range(len(told[1]))))[::3]:
                for many in range(len(told[1]) + 1):
                    self.assertIsNotNone(self.judge(told, resorted(told, sequence, range(many))))

    def test_five_questions(self):
        for told in (SPREAD, BOOKS[8]):
            other = resorted(told, (3, 0, 4, 2, 1), (0, 3))
            sequence, signs = alike_by(told, other)
            self.assertEqual(led(rows(told), sequence, signs), rows(other))
            self.assertEqual((sequence, signs), first_leading(told, other))
        self.assertIsNone(alike_by(SPREAD, BOOKS[8]))
        self.assertIsNone(alike_by(BOOKS[8], (1, BOOKS[3][1][:5])))

    def test_moved(self):
        for told in FEW:
            point = ((FORTY, 2), (-3, FORTY), (7, 5), (-1, 9))[:told[0]]
            found = alike_by(told, moved(told, point))
            self.assertEqual(led(rows(told), *found), rows(told))
        self.assertEqual(alike_by(THREE, MOVED_THREE), ((0, 1, 2), (1, 1, 1)))

    def test_no_questions(self):
        self.assertEqual(alike_by((1, ()), (3, ())), ((), ()))

    def test_the_least_signs(self):
        self.assertEqual(alike_by(CROSS, CROSS), ((0, 1), (-1, -1)))
        self.assertEqual(alike_by(BOOKS[1], BOOKS[11]), ((0,), (-1,)))
        self.assertEqual(alike_by(STAR, STAR), ((0, 1, 2, 3), (-1, -1, -1, -1)))

    def test_the_least_sequence_goes_before_the_signs(self):
        stripes = (1, (((1,), 0), ((1,), 1), ((1,), 2)))
        self.assertEqual(alike_by(stripes, stripes), ((0, 1, 2), (1, 1, 1)))
        self.assertEqual(alike_by(stripes, resorted(stripes, (2, 1, 0))), ((0, 1, 2), (-1, -1, -1)))
        self.assertEqual(alike_by(stripes, resorted(stripes, (1, 0, 2))), ((1, 0, 2), (1, 1, 1)))

    def test_not_the_other_way_round(self):
        told = (2, (((1, 0), 0), ((1, 0), 1), ((0, 1), 0)))
        other = resorted(told, (2, 0, 1))
        self.assertEqual(alike_by(told, other), ((2, 0, 1), (-1, 1, 1)))
        self.assertEqual(alike_by(other, told), ((1, 2, 0), (1, 1, -1)))

    def test_none(self):
        self.assertIsNone(alike_by(THREE, STRIPES))
        self.assertIsNone(alike_by(CROSS, (1, (((1,), 0), ((1,), 1)))))
        self.assertIsNone(alike_by(THREE, (2, (((1, 0), 0), ((0, 1), 0), ((1, 1), 0)))))
        self.assertIsNone(alike_by(STAR, CORNER))


class Barred(unittest.TestCase):
    def test_by_the_rows(self):
        for told in MORE_BOOKS:
            found = barred(told)
            self.assertIs(type(found), list)
            self.assertTrue(all(plain(wish) for wish in found))
            self.assertEqual(found, all_barred(told), told)

    def test_books_of_small_lines(self):
        lines = [((a, b), w) for a, b in ((1, 0), (0, 1), (1, 1), (1, -2), (-2, 2)) for w in (0, 1)]
        for some in combinations(lines, 4):
            told = book(2, some)
            self.assertEqual(barred(told), all_barred(told), told)

    def test_each_with_one_answer_more_none_comes(self):
        for told in (SHELF, BOOKS[9], BOOKS[14], SPREAD):
            for wish in barred(told):
                self.assertIs(comes(told, wish), False)
                for k in range(len(wish)):
                    if wish[k] is not None:
                        self.assertIs(comes(told, wish[:k] + (None,) + wish[k + 1:]), True)

    def test_told(self):
        self.assertEqual(barred((3, ())), [])
        self.assertEqual(barred(CROSS), [])
        self.assertEqual(barred(without(THREE, 0)), [])
        self.assertEqual(barred(STRIPES), [(-1, 1, None), (None, 1, 1), (1, None, 1)])
        self.assertEqual(barred((1, (((1,), 0), ((1,), 1)))), [(-1, 1)])
        self.assertEqual(barred(web_book(3, [(0, 1), (0, 2), (1, 2)])), [(-1, 1, -1), (1, -1, 1)])

    def test_by_how_many_answers_first(self):
        told = (2, (((1, 0), 0), ((0, 1), 0), ((1, 1), 1), ((1, 1), 5)))
        self.assertEqual(barred(told), [(None, None, -1, 1), (-1, -1, None, 1), (-1, -1, 1, None)])
        sizes = [len(wish) - wish.count(None) for wish in barred(SHELF)]
        self.assertEqual(sizes, [3] * 8 + [4] * 6)


if __name__ == "__main__":
    unittest.main()

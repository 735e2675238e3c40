"""Points [3] to [5] and [7], section sidebooks/points.py: what is right."""

import unittest
from fractions import Fraction
from itertools import product

from sidebooks.points import answer, between, fits, row_between, row_of
from tests.samples import BOOKS, COORDINATES, FORTY, THREE, excess, number, plain, points_of, row_by_fractions

SHARES = [(0, 1), (1, 1), (1, 2), (-1, 3), (7, 2), (-FORTY, 1), (1, FORTY), (FORTY, FORTY - 1)]


def ahead(one, other):
    return tuple(b if a == 0 else a for a, b in zip(one, other))


def near_share(book, one, other):
    """A share so small that no wall is met before it, reckoned from where the walls are met."""
    shares = [Fraction(1)]
    for question in book[1]:
        start, end = excess(question, one), excess(question, other)
        if start != end and start / (start - end) > 0:
            shares.append(start / (start - end))
    return min(shares) / 2


class Answer(unittest.TestCase):
    def test_less_equal_more(self):
        self.assertEqual([answer(((2,), 3), (x,)) for x in ((1, 1), (3, 2), (2, 1))], [-1, 0, 1])
        self.assertEqual([answer(((-2,), 3), (x,)) for x in ((-2, 1), (-3, 2), (1, 1))], [1, 0, -1])
        self.assertEqual(answer(((1, 1, 1), 1), ((1, 2), (1, 3), (1, 6))), 0)

    def test_by_fractions(self):
        for told in BOOKS:
            for point in points_of(told[0]):
                found = tuple(answer(question, point) for question in told[1])
                self.assertEqual(found, row_by_fractions(told, point))
                self.assertTrue(plain(found))

    def test_very_near_to_a_wall(self):
        near = 10 ** 40
        for top in (-1, 0, 1):
            x = number(Fraction(1, 3) + Fraction(top, near))
            self.assertEqual(answer(((3,), 1), (x,)), top)
            self.assertEqual(answer(((3, 5), 6), (x, (1, 1))), top)
            self.assertEqual(answer(((3 * FORTY,), FORTY), (x,)), top)


class RowOf(unittest.TestCase):
    def test_no_questions(self):
        self.assertEqual(row_of((1, ()), ((5, 7),)), ())
        self.assertEqual(row_of((3, ()), ((0, 1),) * 3), ())

    def test_by_fractions(self):
        for told in BOOKS:
            for point in points_of(told[0]):
                found = row_of(told, point)
                self.assertEqual(found, row_by_fractions(told, point))
                self.assertTrue(plain(found))


class Fits(unittest.TestCase):
    def test_all_wishes_of_three(self):
        for point in [((0, 1), (1, 2)), ((0, 1), (0, 1)), ((1, 1), (1, 1)), ((-1, 2), (3, 2))]:
            row = row_by_fractions(THREE, point)
            for wish in product((None, -1, 0, 1), repeat=3):
                expected = not [1 for a, b in zip(wish, row) if a is not None and a != b]
                self.assertIs(fits(THREE, wish, point), expected)

    def test_each_row_fits_itself_and_no_wish(self):
        for told in BOOKS:
            many = len(told[1])
            for point in points_of(told[0], 20):
                row = row_of(told, point)
                self.assertIs(fits(told, row, point), True)
                self.assertIs(fits(told, (None,) * many, point), True)
                for k in range(many):
                    for other in (-1, 0, 1):
                        wish = (None,) * k + (other,) + (None,) * (many - k - 1)
                        self.assertIs(fits(told, wish, point), row[k] == other)

    def test_no_questions(self):
        self.assertIs(fits((2, ()), (), ((0, 1), (0, 1))), True)


class Between(unittest.TestCase):
    def test_by_fractions(self):
        for d in (1, 2, 3):
            some = points_of(d, 12)
            for one, other in product(some, some):
                for share in SHARES:
                    found = between(one, other, share)
                    expected = tuple(number(Fraction(*x) + Fraction(*share) * (Fraction(*y) - Fraction(*x)))
                                     for x, y in zip(one, other))
                    self.assertEqual(found, expected)
                    self.assertTrue(plain(found))

    def test_the_ends(self):
        for one, other in product(points_of(2, 12), repeat=2):
            self.assertEqual(between(one, other, (0, 1)), one)
            self.assertEqual(between(one, other, (1, 1)), other)
            self.assertEqual(between(one, one, (-7, 3)), one)

    def test_lowest_terms(self):
        self.assertEqual(between(((1, 2),), ((3, 2),), (1, 2)), ((1, 1),))
        self.assertEqual(between(((1, 1), (-1, 1)), ((-1, 1), (1, 1)), (1, 2)), ((0, 1), (0, 1)))
        self.assertEqual(between(((0, 1),), ((1, 1),), (-2, 3)), ((-2, 3),))

    def test_more_unknowns_than_books_are_bound_to(self):
        self.assertEqual(between(((0, 1),) * 9, ((1, 1),) * 9, (5, 3)), ((5, 3),) * 9)


class RowBetween(unittest.TestCase):
    def test_near_points_and_rows_put_together(self):
        for told in BOOKS:
            some = points_of(told[0], 20)
            for one, other in product(some, some):
                found = row_between(told, one, other)
                self.assertTrue(plain(found))
                self.assertEqual(found, ahead(row_of(told, one), row_of(told, other)))
                far = near_share(told, one, other)
                for share in (far, far / 1000, far / FORTY):
                    near = between(one, other, number(share))
                    self.assertEqual(found, row_by_fractions(told, near))

    def test_a_point_and_itself(self):
        for told in BOOKS:
            for point in points_of(told[0], 20):
                self.assertEqual(row_between(told, point, point), row_by_fractions(told, point))

    def test_the_wall_is_left_and_the_one_met_later_is_not_reached(self):
        line = (1, (((1,), 0), ((1,), 1), ((-1,), -2)))
        self.assertEqual(row_between(line, ((0, 1),), ((2, 1),)), (1, -1, 1))
        self.assertEqual(row_between(line, ((2, 1),), ((0, 1),)), (1, 1, 1))
        self.assertEqual(row_between(line, ((0, 1),), ((-1, FORTY),)), (-1, -1, 1))
        self.assertEqual(row_between(line, ((1, 1),), ((FORTY, 1),)), (1, 1, 1))

    def test_along_a_wall(self):
        self.assertEqual(row_between(THREE, ((0, 1), (0, 1)), ((0, 1), (1, 1))), (0, 1, -1))
        self.assertEqual(row_between(THREE, ((0, 1), (1, 1)), ((0, 1), (0, 1))), (0, 1, -1))
        self.assertEqual(row_between(THREE, ((0, 1), (1, 1)), ((1, 1), (0, 1))), (1, 1, 0))

    def test_no_questions(self):
        self.assertEqual(row_between((1, ()), (COORDINATES[0],), (COORDINATES[1],)), ())


if __name__ == "__main__":
    unittest.main()

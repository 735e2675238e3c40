"""Points [5] and [6], "papers" of [14], section sidebooks/papers.py: what is right."""

import unittest
from fractions import Fraction
from itertools import combinations, product

from sidebooks.books import moved, turned, without
from sidebooks.papers import comes, forced, is_paper, settle, short_paper
from sidebooks.points import fits
from tests.oracle import adds_up, fitting, least_paper, witnesses
from tests.samples import (BOOKS, CORNER, CROSS, FORTY, MORE_BOOKS, MOVED_THREE, SHELF, SMALL_BOOKS, SPREAD, STAR,
                           STRIPES, THREE, number, plain, row_by_fractions)


def every_wish(book):
    return list(product((None, -1, 0, 1), repeat=len(book[1])))


def some_wishes(book, many):
    """Wishes of each kind, all of them where there are few."""
    found = every_wish(book)
    return found[::max(1, len(found) // many)] + [(None,) * len(book[1])]


def scaled(told, by):
    return tuple(number(Fraction(*x) * by) for x in told)


class Judged(unittest.TestCase):
    def judge(self, book, wish):
        """A wish has a point that fits it exactly if there is no paper against it; one of both is told."""
        verdict, proof = told = settle(book, wish)
        self.assertTrue(type(told) is tuple and plain(proof))
        self.assertEqual(verdict, "comes" if fitting(book, wish) else "never", (book, wish))
        self.assertIs(comes(book, wish), verdict == "comes")
        if verdict == "comes":
            self.assertEqual(len(proof), book[0])
            row = row_by_fractions(book, proof)
            self.assertTrue(all(w is None or w == a for w, a in zip(wish, row)), (book, wish, proof))
            self.assertIs(fits(book, wish, proof), True)
        else:
            self.assertTrue(adds_up(book, wish, proof), (book, wish, proof))
            self.assertIs(is_paper(book, wish, proof), True)


class Settle(Judged):
    def test_all_wishes_of_small_books(self):
        for book in SMALL_BOOKS:
            for wish in every_wish(book):
                self.judge(book, wish)

    def test_wishes_of_greater_books(self):
        for book in MORE_BOOKS:
            for wish in some_wishes(book, 250):
                self.judge(book, wish)

    def test_all_rows(self):
        for book in MORE_BOOKS:
            for row in list(witnesses(book))[::3]:
                self.judge(book, row)

    def test_books_of_small_lines(self):
        lines = [((a, b), w) for a, b in ((1, 0), (0, 1), (1, 1), (1, -2), (-2, 2)) for w in (0, 1)]
        for some in combinations(lines, 3):
            for wish in every_wish((2, some))[::3]:
                self.judge((2, some), wish)

    def test_no_questions(self):
        for d in (1, 2, 3):
            self.judge((d, ()), ())
            self.assertEqual(settle((d, ()), ())[0], "comes")

    def test_none_alone(self):
        for book in MORE_BOOKS:
            self.assertEqual(settle(book, (None,) * len(book[1]))[0], "comes")

    def test_a_single_point_alone(self):
        self.assertEqual(settle(CROSS, (0, 0)), ("comes", ((0, 1), (0, 1))))
        self.assertEqual(settle(STAR, (0, None, None, 0)), ("comes", ((1, 1), (2, 1))))
        self.assertEqual(settle(CORNER, (0, 0, 0, None)), ("comes", ((1, 1), (1, 1), (1, 1))))
        self.assertEqual(settle((1, (((7,), -3), ((1,), 0))), (0, None)), ("comes", ((-3, 7),)))
        self.assertEqual(settle(MOVED_THREE, (0, 0, None)), ("comes", ((1, FORTY), (FORTY, 1))))
        self.judge(SPREAD, (0, 0, None, 0, None))

    def test_narrow_rows(self):
        narrow = (1, (((FORTY,), 1), ((FORTY + 1,), 1)))
        self.judge(narrow, (-1, 1))
        self.assertIs(comes(narrow, (-1, 1)), True)
        self.assertIs(comes(narrow, (1, -1)), False)
        wedge = (2, (((FORTY, -1), 0), ((FORTY + 1, -1), 0), ((0, 1), 1), ((0, 1), 2)))
        for wish in every_wish(wedge):
            self.judge(wedge, wish)

    def test_moved_turned_and_without(self):
        for book in (THREE, STRIPES, CORNER, SPREAD):
            point = ((1, FORTY), (-FORTY, 3), (FORTY, 7))[:book[0]]
            others = [moved(book, point), turned(moved(book, point), 1), without(moved(book, point), 0)]
            for other in others:
                for wish in some_wishes(other, 70):
                    self.judge(other, wish)
            for wish in some_wishes(book, 70):
                self.assertIs(comes(others[0], wish), comes(book, wish))
                turned_wish = tuple(-w if k == 1 and w is not None else w for k, w in enumerate(wish))
                self.assertIs(comes(others[1], turned_wish), comes(book, wish))

    def test_what_was_told_may_be_passed_on(self):
        for book in (THREE, SPREAD, BOOKS[9]):
            for row in list(witnesses(book))[::5]:
                point = settle(book, row)[1]
                again = moved(book, point)
                for wish in some_wishes(again, 12):
                    self.judge(again, wish)


class IsPaper(unittest.TestCase):
    def test_all_small_papers(self):
        numbers = [(0, 1), (1, 1), (-1, 1), (1, 2), (-2, 1)]
        for book in (THREE, CROSS, STRIPES, BOOKS[1], BOOKS[2], (1, (((1,), 0), ((-2,), 1), ((1,), 5)))):
            many = len(book[1])
            for told in product(numbers, repeat=many):
                for wish in every_wish(book):
                    self.assertIs(is_paper(book, wish, told), adds_up(book, wish, told), (book, wish, told))

    def test_noughts_are_none(self):
        for book in MORE_BOOKS:
            many = len(book[1])
            for wish in some_wishes(book, 20):
                self.assertIs(is_paper(book, wish, ((0, 1),) * many), False)

    def test_changed_papers(self):
        for book in MORE_BOOKS:
            for wish in some_wishes(book, 40):
                verdict, told = settle(book, wish)
                if verdict == "never":
                    self.try_changes(book, wish, told)

    def try_changes(self, book, wish, told):
        for by in (Fraction(3), Fraction(1, FORTY), Fraction(FORTY, 2)):
            self.assertIs(is_paper(book, wish, scaled(told, by)), True)
        for other in [scaled(told, -1), scaled(told, 0)]:
            self.assertIs(is_paper(book, wish, other), adds_up(book, wish, other))
        for k, x in enumerate(told):
            for change in (number(Fraction(*x) + 1), number(Fraction(*x) / 2 - 1), (-x[0], x[1])):
                other = told[:k] + (change,) + told[k + 1:]
                self.assertIs(is_paper(book, wish, other), adds_up(book, wish, other), (book, wish, other))

    def test_a_number_where_the_wish_has_none(self):
        told = ((-1, 1), (-1, 1), (1, 1))
        self.assertIs(is_paper(THREE, (-1, -1, 1), told), True)
        for wish in ((None, -1, 1), (-1, None, 1), (-1, -1, None)):
            self.assertIs(is_paper(THREE, wish, told), False)

    def test_the_sign_of_a_wish_of_0_is_free(self):
        for told in (((-1, 1), (-1, 1), (1, 1)), ((-2, 7), (-2, 7), (2, 7))):
            for wish in product((0, -1), (0, -1), (0, 1)):
                self.assertIs(is_paper(THREE, wish, told), True)
        turned_over = ((1, 1), (1, 1), (-1, 1))
        self.assertIs(is_paper(THREE, (0, 0, 0), turned_over), False)
        self.assertIs(is_paper(THREE, (1, 1, -1), turned_over), False)

    def test_walls_that_sum_to_0(self):
        line = (1, (((1,), 2), ((3,), 5), ((1,), 0)))
        through = (2, (((1, 0), 0), ((0, 1), 0), ((1, 1), 0)))
        told = ((-1, 1), (-1, 1), (1, 1))
        self.assertIs(is_paper(through, (0, 0, 0), told), False)
        for wish in ((-1, 0, 0), (0, -1, 0), (0, 0, 1), (-1, -1, 1)):
            self.assertIs(is_paper(through, wish, told), True)
        self.assertIs(is_paper(line, (1, -1, None), ((3, 1), (-1, 1), (0, 1))), True)
        self.assertIs(is_paper(line, (-1, 1, None), ((-3, 1), (1, 1), (0, 1))), False)

    def test_walls_that_sum_below_0(self):
        self.assertIs(is_paper(STRIPES, (-1, 1, None), ((-2, 1), (1, 1), (0, 1))), True)
        self.assertIs(is_paper(STRIPES, (1, -1, None), ((2, 1), (-1, 1), (0, 1))), False)

    def test_sides_that_do_not_sum_to_0(self):
        self.assertIs(is_paper(CROSS, (1, 1), ((1, 1), (1, 1))), False)
        self.assertIs(is_paper((1, (((1,), 5),)), (1,), ((1, 1),)), False)
        self.assertIs(is_paper((3, (((0, 0, 1), 1), ((0, 0, 1), 2))), (-1, 1), ((-1, 1), (1, 2))), False)
        self.assertIs(is_paper((3, (((0, 0, 1), 1), ((0, 0, 1), 2))), (-1, 1), ((-1, 2), (1, 2))), True)

    def test_no_questions(self):
        self.assertIs(is_paper((2, ()), (), ()), False)


class ShortPaper(unittest.TestCase):
    def test_the_fewest_and_of_these_the_least(self):
        for book in MORE_BOOKS:
            for wish in some_wishes(book, 60):
                found = short_paper(book, wish)
                self.assertEqual(found, least_paper(book, wish), (book, wish))
                self.assertTrue(plain(found))

    def test_all_wishes_of_small_books(self):
        for book in (THREE, STAR, STRIPES, CORNER):
            for wish in every_wish(book):
                self.assertEqual(short_paper(book, wish), least_paper(book, wish), (book, wish))

    def test_only_those_are_asked(self):
        for wish in every_wish(STAR):
            some = short_paper(STAR, wish)
            if some is not None:
                lone = tuple(w if k in some else None for k, w in enumerate(wish))
                self.assertIs(comes(STAR, lone), False)
                for k in some:
                    self.assertIs(comes(STAR, lone[:k] + (None,) + lone[k + 1:]), True)

    def test_fewer_behind_more(self):
        book = (2, (((1, 0), 0), ((0, 1), 0), ((1, 1), 1), ((1, 0), -2), ((1, 1), 5)))
        self.assertEqual(short_paper(book, (-1, -1, 1, None, None)), (0, 1, 2))
        self.assertEqual(short_paper(book, (-1, -1, -1, None, 1)), (2, 4))
        self.assertEqual(short_paper(book, (1, -1, 1, -1, None)), (0, 3))
        self.assertEqual(short_paper(book, (1, 1, -1, -1, 0)), (0, 3))


class Forced(unittest.TestCase):
    def test_by_the_rows(self):
        for book in MORE_BOOKS:
            for wish in some_wishes(book, 60):
                rows = fitting(book, wish)
                expected = tuple(tuple(sorted({row[k] for row in rows})) for k in range(len(wish)))
                found = forced(book, wish)
                self.assertEqual(found, expected, (book, wish))
                self.assertTrue(plain(found))

    def test_never(self):
        self.assertEqual(forced(THREE, (-1, -1, 1)), ((), (), ()))
        self.assertEqual(forced(STRIPES, (-1, 1, None)), ((), (), ()))

    def test_all_open(self):
        self.assertEqual(forced(THREE, (None,) * 3), ((-1, 0, 1),) * 3)
        self.assertEqual(forced(SHELF, (-1, None, None, -1, None, -1)), ((-1,),) * 6)
        self.assertEqual(forced((1, ()), ()), ())


if __name__ == "__main__":
    unittest.main()

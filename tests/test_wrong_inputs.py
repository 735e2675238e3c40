"""Point [1]: the error that is named, with the value that is named, the one that is listed first."""

import unittest

from sidebooks import books, points
from sidebooks.errors import InvalidBook, InvalidIndex, InvalidNumber, InvalidPoint, InvalidQuestion, InvalidWish
from tests.samples import (BOOKS, FORTY, NO_INTEGERS, NO_NUMBERS, THREE, never_points, no_books, no_indexes,
                           no_points, no_questions, no_questions_of, no_wishes)

POINT = ((0, 1), (1, 2))
OTHER = ((1, 1), (1, 1))
HALF = (1, 2)
WISH = (None, 1, -1)


class WrongInputs(unittest.TestCase):
    def refused(self, error, value, call, *told):
        with self.assertRaises(error) as caught:
            call(*told)
        self.assertIs(type(caught.exception), error)
        self.assertIs(caught.exception.value, value)


class WrongBooks(WrongInputs):
    def test_the_book(self):
        for wrong in no_books():
            for call, rest in ((books.without, (0,)), (books.turned, (0,)), (books.moved, (POINT,)),
                               (books.at_once, ()), (books.rank, ()), (points.row_of, (POINT,)),
                               (points.fits, (WISH, POINT)), (points.row_between, (POINT, OTHER))):
                self.refused(InvalidBook, wrong, call, wrong, *rest)

    def test_how_many_unknowns(self):
        for wrong in NO_INTEGERS + [0, -1, -FORTY]:
            self.refused(InvalidBook, wrong, books.book, wrong, [])
            self.refused(InvalidBook, wrong, books.book, wrong, [((1, 0), 0)])
            self.refused(InvalidBook, wrong, books.book, wrong, [None])
            self.refused(InvalidBook, wrong, books.book, wrong, None)

    def test_the_questions(self):
        for d in (1, 2, 3):
            right = ((1,) * d, 4)
            for wrong in no_questions_of(d):
                self.refused(InvalidQuestion, wrong, books.book, d, [wrong])
                self.refused(InvalidQuestion, wrong, books.book, d, (right, right, wrong))
                self.refused(InvalidQuestion, wrong, books.book, d, [right, wrong, ((0,) * d, 0), None])

    def test_no_list_or_tuple_of_questions(self):
        for wrong in (None, True, 7, "", "ab", {}, {((1, 0), 0): 1}):
            self.refused(InvalidQuestion, wrong, books.book, 2, wrong)

    def test_a_question_of_a_book(self):
        self.refused(InvalidQuestion, THREE[1][0][0], books.book, 2, THREE[1][0])


class WrongIndexes(WrongInputs):
    def test_the_index(self):
        for book in BOOKS:
            for wrong in no_indexes(book):
                self.refused(InvalidIndex, wrong, books.without, book, wrong)
                self.refused(InvalidIndex, wrong, books.turned, book, wrong)

    def test_behind_the_book(self):
        for wrong in ([2, ()], (2, (((1, 0), 0), ((2, 0), 0)))):
            self.refused(InvalidBook, wrong, books.without, wrong, -1)
            self.refused(InvalidBook, wrong, books.turned, wrong, None)


class WrongPoints(WrongInputs):
    def test_the_point(self):
        for book in BOOKS:
            right = ((3, 7),) * book[0]
            for wrong in no_points(book[0]):
                self.refused(InvalidPoint, wrong, books.moved, book, wrong)
                self.refused(InvalidPoint, wrong, points.row_of, book, wrong)
                self.refused(InvalidPoint, wrong, points.fits, book, (None,) * len(book[1]), wrong)
                self.refused(InvalidPoint, wrong, points.row_between, book, wrong, right)
                self.refused(InvalidPoint, wrong, points.row_between, book, right, wrong)

    def test_of_answer(self):
        for d in (1, 2, 3):
            for wrong in no_points(d):
                self.refused(InvalidPoint, wrong, points.answer, ((0,) * (d - 1) + (4,), 1), wrong)

    def test_of_between(self):
        for d in (1, 2, 3):
            right = ((3, 7),) * d
            for wrong in no_points(d):
                self.refused(InvalidPoint, wrong, points.between, right, wrong, HALF)
            for wrong in never_points(d):
                self.refused(InvalidPoint, wrong, points.between, wrong, right, HALF)
                self.refused(InvalidPoint, wrong, points.between, wrong, right + right, HALF)

    def test_of_between_of_another_number_of_unknowns(self):
        for one, other in ((POINT, POINT[1:]), (POINT[1:], POINT), (POINT, POINT + OTHER)):
            self.refused(InvalidPoint, other, points.between, one, other, HALF)

    def test_from_the_left(self):
        one, other = [POINT], (POINT,)
        self.refused(InvalidPoint, one, points.between, one, other, HALF)
        self.refused(InvalidPoint, other, points.between, other, one, HALF)
        self.refused(InvalidPoint, one, points.row_between, THREE, one, other)
        self.refused(InvalidPoint, other, points.row_between, THREE, other, one)
        short = POINT[1:]
        self.refused(InvalidPoint, short, points.row_between, THREE, short, None)
        self.refused(InvalidPoint, None, points.row_between, THREE, None, short)

    def test_behind_the_book(self):
        wrong = (2, [])
        self.refused(InvalidBook, wrong, books.moved, wrong, None)
        self.refused(InvalidBook, wrong, points.row_of, wrong, None)
        self.refused(InvalidBook, wrong, points.row_between, wrong, None, None)


class WrongQuestions(WrongInputs):
    def test_the_question(self):
        for wrong in no_questions():
            self.refused(InvalidQuestion, wrong, points.answer, wrong, POINT)
            self.refused(InvalidQuestion, wrong, points.answer, wrong, None)

    def test_of_another_number_of_unknowns_is_the_point_wrong(self):
        self.refused(InvalidPoint, POINT, points.answer, ((1,), 0), POINT)
        self.refused(InvalidPoint, POINT, points.answer, ((1, 1, 1), 0), POINT)


class WrongWishes(WrongInputs):
    def test_the_wish(self):
        for book in BOOKS:
            right = ((3, 7),) * book[0]
            for wrong in no_wishes(book):
                self.refused(InvalidWish, wrong, points.fits, book, wrong, right)
                self.refused(InvalidWish, wrong, points.fits, book, wrong, None)

    def test_behind_the_book(self):
        self.refused(InvalidBook, None, points.fits, None, [], [])
        wrong = (0, ())
        self.refused(InvalidBook, wrong, points.fits, wrong, (None,), ())


class WrongNumbers(WrongInputs):
    def test_the_share(self):
        for wrong in NO_NUMBERS:
            self.refused(InvalidNumber, wrong, points.between, POINT, OTHER, wrong)

    def test_behind_the_points(self):
        short = POINT[1:]
        self.refused(InvalidPoint, None, points.between, None, OTHER, None)
        self.refused(InvalidPoint, short, points.between, POINT, short, (2, 4))


if __name__ == "__main__":
    unittest.main()

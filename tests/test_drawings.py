"""Section sidebooks/drawings.py: what is drawn, and what is refused."""

import unittest
from fractions import Fraction
from string import ascii_letters

from sidebooks.books import moved, turned
from sidebooks.drawings import drawn
from sidebooks.errors import InvalidBook, InvalidNumber
from sidebooks.points import row_of
from sidebooks.rows import full_rows
from tests.oracle import all_full, row_at
from tests.samples import CROSS, FORTY, MORE_BOOKS, NO_INTEGERS, STAR, STRIPES, THREE, no_books, number
from tests.wrongs import NO_COUNTS, NO_SIZES, WrongInputs, each

PLANES = [book for book in MORE_BOOKS if book[0] == 2 and len(book[1]) <= 6]
FRAMES = [(-1, -1, 4, 4, 1), (0, 0, 1, 1, 1), (-3, -5, 20, 20, 2), (-7, 2, 6, 9, 3), (2, -4, 9, 5, 7),
          (-1, -2, 20, 7, 20), (0, 0, 0, 0, 1), (1, 1, 0, 3, 2), (1, 1, 3, 0, 2), (FORTY, -FORTY, 3, 3, FORTY),
          (-2, -2, 20, 20, 5)]


def expected(book, left, low, wide, high, size):
    full = all_full(book)
    found = []
    for j in range(high - 1, -1, -1):
        line = ""
        for i in range(wide):
            row = row_at(book[1], (left + Fraction(i, size), low + Fraction(j, size)))
            line += "." if 0 in row else ascii_letters[full.index(row)]
        found.append(line)
    return found


class Drawings(unittest.TestCase):
    def test_point_by_point(self):
        for book in PLANES:
            for frame in FRAMES:
                found = drawn(book, *frame)
                self.assertIs(type(found), list)
                self.assertEqual(found, expected(book, *frame), (book, frame))

    def test_by_the_rows_of_points(self):
        for book in (THREE, STAR, CROSS):
            letters = {row: ascii_letters[place] for place, row in enumerate(full_rows(book))}
            found = drawn(book, -2, -3, 15, 17, 4)
            for j, line in enumerate(found[::-1]):
                for i, sign in enumerate(line):
                    row = row_of(book, (number(-2 + Fraction(i, 4)), number(-3 + Fraction(j, 4))))
                    self.assertEqual(sign, letters.get(row, "."))

    def test_no_rows_or_no_columns(self):
        self.assertEqual(drawn(THREE, 0, 0, 5, 0, 1), [])
        self.assertEqual(drawn(THREE, 0, 0, 0, 0, 3), [])
        self.assertEqual(drawn(THREE, 0, 0, 0, 3, 1), ["", "", ""])

    def test_no_questions(self):
        self.assertEqual(drawn((2, ()), -1, 5, 3, 2, 9), ["aaa", "aaa"])

    def test_all_on_a_wall(self):
        self.assertEqual(drawn((2, (((0, 1), 2), ((1, 0), 9))), 0, 2, 5, 1, 3), ["....."])
        self.assertEqual(drawn(CROSS, 0, -1, 1, 3, 1), [".", ".", "."])

    def test_left_of_and_below_nought(self):
        self.assertEqual(drawn(CROSS, -2, -2, 5, 5, 1), ["bb.dd", "bb.dd", ".....", "aa.cc", "aa.cc"])
        self.assertEqual(drawn(STRIPES, -1, 0, 3, 1, 1), expected(STRIPES, -1, 0, 3, 1, 1))

    def test_a_size_above_1(self):
        self.assertEqual(drawn((2, (((2, 0), 1),)), 0, 0, 3, 1, 2), ["a.b"])
        self.assertEqual(drawn((2, (((0, 3), 2),)), 0, 0, 1, 4, 3), ["b", ".", "a", "a"])

    def test_letters_of_twenty_two_rows(self):
        six = (2, (((1, 0), 0), ((0, 1), 0), ((1, 1), 1), ((1, -1), 5), ((1, 2), 7), ((3, 1), -8)))
        self.assertEqual(len(all_full(six)), 22)
        found = "".join("".join(drawn(six, left, low, 20, 20, 1)) for left in range(-40, 40, 20)
                        for low in range(-40, 40, 20))
        self.assertLessEqual(set(found), set("." + ascii_letters[:22]))
        self.assertIn("v", found)

    def test_more_rows_than_letters(self):
        stripes = (2, tuple(((1, 0), k) for k in range(60)))
        signs = ascii_letters[1:] + "?" * 9
        self.assertEqual(drawn(stripes, -1, 0, 122, 1, 2), ["aa" + "".join("." + sign for sign in signs)])

    def test_moved_and_turned(self):
        for book in (THREE, STAR):
            other = moved(book, ((3, 1), (-2, 1)))
            self.assertEqual(drawn(other, 0, -4, 12, 12, 3), drawn(book, -3, -2, 12, 12, 3))
            dots = [[sign == "." for sign in line] for line in drawn(book, -3, -2, 12, 12, 3)]
            again = drawn(turned(book, 1), -3, -2, 12, 12, 3)
            self.assertEqual([[sign == "." for sign in line] for line in again], dots)

    def test_lists_are_new(self):
        found = drawn(THREE, -1, -1, 4, 4, 1)
        found.clear()
        self.assertEqual(drawn(THREE, -1, -1, 4, 4, 1), ["..gg", "b.gg", "....", "a.d."])


class Wrong(WrongInputs):
    right = [THREE, -1, -2, 3, 4, 2]
    wrongs = [each(InvalidBook, no_books() + [(1, ()), (1, (((1,), 0),)), (3, ()), (3, (((1, 0, 0), 0),))]),
              each(InvalidNumber, NO_INTEGERS + [(1, 2)]), each(InvalidNumber, NO_INTEGERS),
              each(InvalidNumber, NO_COUNTS), each(InvalidNumber, NO_COUNTS), each(InvalidNumber, NO_SIZES)]

    def test_alone(self):
        self.refused_alone(drawn, self.right, self.wrongs)

    def test_at_once(self):
        self.refused_at_once(drawn, self.right, self.wrongs, [InvalidBook, InvalidNumber])


if __name__ == "__main__":
    unittest.main()

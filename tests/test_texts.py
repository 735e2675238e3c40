"""Points [3], [4], [5], [13], sections sidebooks/texts.py and sidebooks/readers.py: what is shown, and read back."""

import unittest
from fractions import Fraction
from random import Random

from sidebooks import readers, texts
from sidebooks.books import is_book
from sidebooks.errors import Unreadable
from sidebooks.texts import show_book, show_number, show_point, show_question, show_row, show_saying, show_wish
from tests.oracle import all_rows
from tests.samples import MORE_BOOKS, STRIPES, THREE, number, plain
from tests.test_sayings import SAYINGS, random_leaves, random_saying

GREAT = int("9" * 300)
NUMBERS = [(0, 1), (1, 1), (-1, 1), (7, 1), (1, 2), (-1, 2), (22, 7), (-22, 7), (999999999, 1), (-999999999, 1),
           (1, 999999999), (999999998, 999999999), (-999999999, 1000), (10, 1), (100, 9)]
BOOKS = [book for book in MORE_BOOKS if all(abs(x) < 10 ** 9 for sides, wall in book[1] for x in sides + (wall,))]
WIDE = (12, tuple((tuple((k == i) * 999999999 - (k == i + 1) for k in range(12)), -i) for i in range(12))
        + tuple(((0,) * 11 + (1,), 10 ** 8 + i) for i in range(8)))
ODD = ["", " ", "\n", "-", "+", "/", ":", "(", ")", "[", "]", ".", "?", "a", "~", "!", "0", "00", "-0", "+0", "+1",
       "01", "-01", "1/1", "2/4", "1/0", "0/0", "0/1", "0/2", "1/-2", "-1/-2", "1/", "/2", "1/2/3", "1 /2", "1/ 2",
       "1//2", "--1", "-", "1-", "1.0", "1e3", "1_0", "0x1", "one", "None", "True", "1000000000", "-1000000000",
       "1/1000000000", "1000000000/3", "4/2", "3/1", "-3/1", "01/2", "1/02", "+1/2", "1/+2", "-0/3", "()", "1,2",
       "1;2", "\t1", "1\t2", "1\r"]


def deep_saying(depth, many):
    """A saying that is as deep as told, with all words in it."""
    chance = Random(depth)
    leaves = random_leaves(chance, many, 4)
    found = leaves[0]
    for k in range(depth - 1):
        other = random_saying(chance, leaves, 2)
        found = [("not", found), ("both", found, other), ("either", other, found)][k % 3]
    return found


class Shown(unittest.TestCase):
    def test_numbers(self):
        shown = ["0", "1", "-1", "7", "1/2", "-1/2", "22/7", "-22/7", "999999999", "-999999999", "1/999999999",
                 "999999998/999999999", "-999999999/1000", "10", "100/9"]
        self.assertEqual([show_number(a) for a in NUMBERS], shown)

    def test_three_hundred_digits(self):
        self.assertEqual(show_number((GREAT, 1)), "9" * 300)
        self.assertEqual(show_number((-GREAT, GREAT + 1)), "-" + "9" * 300 + "/1" + "0" * 300)
        self.assertEqual(show_question(((GREAT, -GREAT), GREAT)), "{0} -{0} : {0}".format("9" * 300))
        self.assertEqual(show_saying(("is", (-GREAT,), GREAT)), "(is [-{0}] {0})".format("9" * 300))
        self.assertEqual(show_book((1, (((GREAT,), 0),))), "book 1\n" + "9" * 300 + " : 0")

    def test_points(self):
        self.assertEqual(show_point(((1, 2),)), "1/2")
        self.assertEqual(show_point(((-1, 2), (0, 1), (3, 1))), "-1/2 0 3")

    def test_rows_and_wishes(self):
        self.assertEqual([show_row(row) for row in ((), (0,), (-1,), (1,), (-1, 0, 1))], [".", "0", "-", "+", "-0+"])
        wishes = ((), (None,), (None, None), (1, None, 0, -1))
        self.assertEqual([show_wish(wish) for wish in wishes], [".", "?", "??", "+?0-"])

    def test_questions_and_books(self):
        self.assertEqual(show_question(((1,), 0)), "1 : 0")
        self.assertEqual(show_question(((-1, 0, 10), -25)), "-1 0 10 : -25")
        self.assertEqual(show_book((3, ())), "book 3")
        self.assertEqual(show_book(THREE), "book 2\n1 0 : 0\n0 1 : 0\n1 1 : 1")
        for book in MORE_BOOKS:
            lines = show_book(book).split("\n")
            self.assertEqual(lines, ["book " + str(book[0])] + [show_question(question) for question in book[1]])

    def test_sayings(self):
        one, other = ("less", (1, 0), 1), ("more", (0, -3), -2)
        self.assertEqual(show_saying(one), "(less [1 0] 1)")
        self.assertEqual(show_saying(("is", (0,), 0)), "(is [0] 0)")
        self.assertEqual(show_saying(("both", one, ("not", other))), "(both (less [1 0] 1) (not (more [0 -3] -2)))")
        self.assertEqual(show_saying(("either", other, one)), "(either (more [0 -3] -2) (less [1 0] 1))")

    def test_by_name(self):
        self.assertEqual(show_number(a=(1, 2)), "1/2")
        self.assertEqual(show_point(point=((1, 2),)), "1/2")
        self.assertEqual(show_row(row=(1,)), "+")
        self.assertEqual(show_wish(wish=(None,)), "?")
        self.assertEqual(show_question(question=((2,), 3)), "2 : 3")
        self.assertEqual(show_book(book=(1, ())), "book 1")
        self.assertEqual(show_saying(saying=("is", (2,), 3)), "(is [2] 3)")


class ReadBack(unittest.TestCase):
    def back(self, kind, told):
        shown = getattr(texts, "show_" + kind)(told)
        self.assertIs(type(shown), str)
        self.assertEqual([line for line in shown.split("\n") if line != line.strip(" ") or "  " in line], [])
        found = getattr(readers, "read_" + kind)(text=shown)
        self.assertEqual(found, told)
        self.assertEqual(repr(found), repr(told))
        return found

    def test_numbers(self):
        for told in NUMBERS + [number(Fraction(a, b)) for a in range(-20, 21) for b in range(1, 15)]:
            self.assertTrue(plain(self.back("number", told)))

    def test_points(self):
        for d in (1, 2, 3, 12):
            for k in range(len(NUMBERS)):
                self.back("point", tuple((NUMBERS * 3)[k:k + d]))

    def test_rows_and_wishes(self):
        for book in MORE_BOOKS:
            for row in all_rows(book)[::7]:
                self.back("row", row)
                self.back("wish", row)
                self.back("wish", tuple(None if k % 3 == 0 else a for k, a in enumerate(row)))
        for many in (0, 1, 20):
            self.back("row", (-1,) * many)
            self.back("wish", (None,) * many)

    def test_books(self):
        self.assertIs(is_book(WIDE), True)
        self.assertEqual(len(WIDE[1]), 20)
        for book in BOOKS + [WIDE, (12, ()), (999999999, ())]:
            self.back("book", book)

    def test_sayings(self):
        for d, one, other in SAYINGS:
            self.back("saying", one)
            self.back("saying", other)
        for depth in range(1, 13):
            for many in (1, 3, 12):
                self.back("saying", deep_saying(depth, many))
        full = ("is", (999999999, -999999999), 999999999)
        for _ in range(8):
            full = ("both", full, full)
        self.back("saying", full)


class Unread(unittest.TestCase):
    def refused(self, n, call, text):
        with self.assertRaises(Unreadable, msg=repr(text)) as caught:
            call(text)
        self.assertIs(type(caught.exception), Unreadable)
        self.assertEqual(caught.exception.value, n, repr(text))
        self.assertIs(type(caught.exception.value), int)

    def test_numbers(self):
        for text in ODD + ["1 ", " 1", "1 2", "1/2 ", "- 1"]:
            if text not in ("0",):
                self.refused(1, readers.read_number, text)
        for text in ("1\n", "0\n2", "-1/2\n\n", "7\nx", "5\n "):
            self.refused(2, readers.read_number, text)
        for text in ("\n1", "2/4\n1", "01\n", " 1\n"):
            self.refused(1, readers.read_number, text)

    def test_points(self):
        for text in ODD:
            if text not in ("0",):
                for whole in (text, text + " 1", "1 " + text, "1/2 " + text + " 3"):
                    if "\n" not in text:
                        self.refused(1, readers.read_point, whole)
        for text in ("1  2", " 1 2", "1 2 ", "1 2/4", "1 2/1", ""):
            self.refused(1, readers.read_point, text)
        for text in ("1 2\n", "1/2 3\n4", "0\n\n"):
            self.refused(2, readers.read_point, text)
        self.refused(1, readers.read_point, "1 2 \n3")

    def test_rows_and_wishes(self):
        for text in ("", " ", "+ -", " +", "+ ", "..", ".+", "+.", "1", "-1", "x", "+-x", "\n", "\n+", "/", "(+)"):
            self.refused(1, readers.read_row, text)
            self.refused(1, readers.read_wish, text)
        for text in ("?", "+?", "?-0", "?\n"):
            self.refused(1, readers.read_row, text)
        for text in (".\n", "+\n", "0-+\n\n", "-\n+", "-\n "):
            self.refused(2, readers.read_row, text)
            self.refused(2, readers.read_wish, text)
        for text in (".?", "?.", "? ", " ?", "??*"):
            self.refused(1, readers.read_wish, text)
        self.refused(2, readers.read_wish, "?\n?")

    def test_first_lines_of_books(self):
        for text in ("", "\n", "book", "book ", " book 1", "book  1", "book 1 ", "Book 1", "book 01", "book -0",
                     "book +1", "book 1/2", "book 1 2", "book one", "books 1", "book 1000000000", "1", "1 : 0",
                     "book1", "x\n1 : 0", "\nbook 1", "book 1 :\n1 : 0", "bo ok 1", "book\n1", "book 1.0", "book 1\r"):
            self.refused(1, readers.read_book, text)

    def test_other_lines_of_books(self):
        for line in ODD + ["1", "1 :", ": 1", " : 1", "1 : ", "1: 1", "1 :1", "1:1", "1  : 1", "1 :  1", " 1 : 1",
                           "1 : 1 ", "1 : 1 : 1", "1 : 1 1", "1/2 : 1", "1 : 1/2", "01 : 1", "1 : 01", "-0 : 1",
                           "1 : -0", "+1 : 1", "1 2  3 : 4", "1 : +1", "1000000000 : 1", "1 : 1000000000", "book 1",
                           "1 . 1", "x : 1", "1 : x"]:
            if "\n" not in line:
                self.refused(2, readers.read_book, "book 1\n" + line)
                self.refused(3, readers.read_book, "book 1\n1 : 0\n" + line)
                self.refused(3, readers.read_book, "book 1\n1 : 0\n" + line + "\n1 : 1")
                self.refused(2, readers.read_book, "book 7\n" + line + "\nx\n" + line)
        self.refused(2, readers.read_book, "book 1\n")
        self.refused(5, readers.read_book, show_book(THREE) + "\n")
        self.refused(3, readers.read_book, "book 2\n1 0 : 0\n\n0 1 : 0")

    def test_what_is_no_book(self):
        for text in ("book 0", "book -1", "book -999999999", "book 0\n1 : 0", "book 1\n0 : 0", "book 1\n0 : 3",
                     "book 2\n0 0 : 1", "book 2\n1 : 1", "book 1\n1 1 : 1", "book 2\n1 0 : 0\n1 : 0",
                     "book 1\n1 : 1\n2 : 2", "book 2\n1 2 : 3\n-2 -4 : -6", "book 1\n1 : 0\n1 : 0",
                     "book 3\n1 0 0 : 1\n0 0 0 : 1\n0 1 0 : 1"):
            self.refused(0, readers.read_book, text)

    def test_a_wrong_line_goes_before_no_book(self):
        self.refused(3, readers.read_book, "book 0\n0 : 0\nx")
        self.refused(4, readers.read_book, "book 1\n1 : 0\n1 : 0\n")
        self.refused(1, readers.read_book, "book 01\n0 : 0\nx")

    def test_sayings(self):
        right = "(both (less [1 0] 1) (not (is [-2 3] 0)))"
        readers.read_saying(right)
        for text in ODD + [right[1:], right[:-1], right + ")", "(" + right + ")", right + " ", " " + right,
                           right + right, "(less [1] 1) (less [1] 1)", "(less 1 1)", "(less (1) 1)", "(less [] 1)",
                           "(less [ ] 1)", "(less [1 ] 1)", "(less [ 1] 1)", "(less [1  0] 1)", "(less [1] 1 )",
                           "( less [1] 1)", "(less  [1] 1)", "(less [1]  1)", "(less[1] 1)", "(less [1]1)",
                           "(less [1])", "(less 1)", "(less [1] 1 1)", "(less [1] [1])", "(less [1] 01)",
                           "(less [01] 1)", "(less [+1] 1)", "(less [-0] 1)", "(less [1] -0)", "(less [1/2] 1)",
                           "(less [1] 1/2)", "(less [1,0] 1)", "(Less [1] 1)", "(equal [1] 1)", "([1] 1)", "(not)",
                           "(not )", "(not less [1] 1)", "(not (less [1] 1) (less [1] 1))", "(both (less [1] 1))",
                           "(both (less [1] 1) )", "(both (less [1] 1)(less [1] 1))",
                           "(both (less [1] 1)  (less [1] 1))", "(both  (less [1] 1) (less [1] 1))",
                           "(both (less [1] 1) (less [1] 1) (less [1] 1))", "(either (less [1] 1) (less [1 0] 1))",
                           "(both (is [1 2] 3) (not (is [1] 3)))", "less [1] 1", "{less [1] 1}", "(less {1} 1)",
                           "(less [1000000000] 1)", "(less [1] 1000000000)", "(not (not (less [1] 1))", "(not" * 40,
                           "(not " * 9000, "(" * 9000, "(both " * 3 + ")" * 3]:
            self.refused(1, readers.read_saying, text)
            self.refused(1, readers.read_saying, text + "\n(less [1] 1)")
        for text in (right + "\n", right + "\n\n", right + "\n" + right, "(less [1] 1)\nx", "(is [0] 0)\n "):
            self.refused(2, readers.read_saying, text)

    def test_nine_digits(self):
        self.assertEqual(readers.read_number("123456789"), (123456789, 1))
        self.assertEqual(readers.read_number("-123456789/987654320"), (-123456789, 987654320))
        self.assertEqual(readers.read_saying("(is [123456789] -987654321)"), ("is", (123456789,), -987654321))
        for text in ("1234567890", "-1234567890", "1/1234567891", "9" * 300, "1/" + "9" * 300, "9" * 9000):
            self.refused(1, readers.read_number, text)

    def test_no_text(self):
        for call in (readers.read_number, readers.read_point, readers.read_row, readers.read_wish, readers.read_book,
                     readers.read_saying):
            for wrong in (None, 7, True, ["1"], ("1",), b"1", {}):
                self.refused(1, call, wrong)


class Bent(unittest.TestCase):
    """A text that is bent at one place is refused with the right number, or is what is shown of what is then read."""

    signs = " -+0123/:.?()[]\nabeklnost~"

    def bent(self, text):
        for at in range(len(text) + 1):
            yield text[:at] + text[at + 1:]
            for sign in self.signs:
                yield text[:at] + sign + text[at:]
                yield text[:at] + sign + text[at + 1:]

    def outcome(self, kind, text):
        """The number of the line that is refused, or `None` if what is read is shown just so."""
        try:
            found = getattr(readers, "read_" + kind)(text)
        except Unreadable as error:
            return error.value
        self.assertEqual(getattr(texts, "show_" + kind)(found), text)
        return None

    def test_of_one_line(self):
        for kind, shown in (("number", "-12/35"), ("point", "1/2 -3 0"), ("row", "-0+"), ("wish", "+?-"),
                            ("saying", "(both (less [1 0] 1) (not (is [-2 3] 0)))")):
            numbers = set()
            for text in self.bent(shown):
                found = self.outcome(kind, text)
                numbers.add(found)
                if found is not None:
                    line, more, _ = text.partition("\n")
                    self.assertEqual(found, 2 if more and self.outcome(kind, line) is None else 1, text)
            self.assertEqual(numbers, {None, 1, 2})

    def test_of_books(self):
        for book in (THREE, STRIPES, (1, ())):
            numbers = set()
            for text in self.bent(show_book(book)):
                found = self.outcome("book", text)
                numbers.add(found)
                if found is not None:
                    stands = [self.stands(line, k) for k, line in enumerate(text.split("\n"))]
                    self.assertEqual(found, 0 if all(stands) else stands.index(False) + 1, text)
            self.assertLessEqual({None, 0, 1}, numbers)

    def stands(self, line, place):
        """True if a line can stand at its place, found by what is shown of it in words."""
        words = line.split(" ")
        if place == 0:
            return len(words) == 2 and words[0] == "book" and self.whole(words[1])
        return len(words) > 2 and words[-2] == ":" and all(self.whole(word) for word in words[:-2] + words[-1:])

    def whole(self, word):
        return self.outcome("number", word) is None and "/" not in word


if __name__ == "__main__":
    unittest.main()

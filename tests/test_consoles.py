"""Section sidebooks/consoles.py: named books, undo, and orders."""

import unittest
from random import Random

from sidebooks import papers, points, polynomials, roads, rows
from sidebooks.books import turned, without
from sidebooks.consoles import Console
from sidebooks.errors import (BookError, InvalidBook, InvalidIndex, InvalidName, InvalidPoint, InvalidRow, InvalidWish,
                              NeverComes, NotFull, NothingToUndo, UnknownName, Unorderly, Unreadable)
from sidebooks.readers import read_book, read_point, read_row, read_wish
from sidebooks.texts import show_book, show_point, show_row, show_wish
from tests.oracle import all_full, all_rows
from tests.samples import (BOOKS, CORNER, CROSS, FORTY, MORE_BOOKS, SHELF, STAR, STRIPES, THREE, no_books, points_of)

NO_NAMES = [None, True, 7, 0, "", " ", "A", "Three", "ninechars", "abcdefghi", "a1", "1", "a b", "a ", " a", "a-b",
            "a.", "a\n", "\n", "\u00e4", "\u03b1", b"a", ("a",), ["a"], [], {}, {"a": 1}, object(), 1.0, "undo!",
            "thr_e"]
NAMES = ["a", "z", "three", "book", "undo", "abcdefgh", "names"]
SHOWN = "book 2\n1 0 : 0\n0 1 : 0\n1 1 : 1"


class Trying(unittest.TestCase):
    def refused(self, error, value, call, *told):
        with self.assertRaises(error, msg=repr(told)) as caught:
            call(*told)
        self.assertIs(type(caught.exception), error, repr(told))
        if isinstance(caught.exception.value, (int, str)):
            self.assertEqual(caught.exception.value, value, repr(told))
            self.assertIs(type(caught.exception.value), type(value), repr(told))
        else:
            self.assertEqual(repr(caught.exception.value), repr(value), repr(told))

    def state(self, console):
        return [(name, console.book(name)) for name in console.names()]

    def filled(self):
        console = Console()
        for name, book in (("three", THREE), ("cross", CROSS), ("none", (1, ())), ("shelf", SHELF)):
            console.keep(name, book)
        return console


class Kept(Trying):
    def test_none_at_first(self):
        self.assertEqual(Console().names(), [])
        self.refused(UnknownName, "a", Console().book, "a")
        self.refused(UnknownName, "a", Console().drop, "a")
        self.refused(NothingToUndo, 0, Console().undo)

    def test_keep_and_drop(self):
        console = Console()
        for book, name in zip(MORE_BOOKS, NAMES):
            self.assertIsNone(console.keep(name, book))
            self.assertEqual(console.book(name), book)
        self.assertEqual(console.names(), sorted(NAMES))
        for name in NAMES:
            self.assertIsNone(console.drop(name))
            self.refused(UnknownName, name, console.book, name)
            self.refused(UnknownName, name, console.drop, name)
        self.assertEqual(console.names(), [])

    def test_by_name(self):
        console = Console()
        console.keep(name="a", book=THREE)
        console.keep(book=CROSS, name="b")
        self.assertEqual(console.book(name="b"), CROSS)
        self.assertEqual(console.order(text="names"), "a\nb")
        console.drop(name="a")
        self.assertEqual(console.names(), ["b"])

    def test_names_are_a_new_list(self):
        console = self.filled()
        found = console.names()
        found.append("else")
        found.remove("three")
        self.assertEqual(console.names(), ["cross", "none", "shelf", "three"])
        self.assertIs(type(console.names()), list)

    def test_two_consoles(self):
        one, other = Console(), Console()
        one.keep("a", THREE)
        other.keep("b", CROSS)
        one.keep("b", STAR)
        self.assertEqual((one.names(), other.names()), (["a", "b"], ["b"]))
        self.assertEqual((one.book("b"), other.book("b")), (STAR, CROSS))
        other.undo()
        self.assertEqual((one.names(), other.names()), (["a", "b"], []))
        self.refused(NothingToUndo, 0, other.undo)
        one.order("undo")
        self.assertEqual(self.state(one), [("a", THREE)])

    def test_wrong_names(self):
        console = self.filled()
        before = self.state(console)
        for wrong in NO_NAMES:
            self.refused(InvalidName, wrong, console.keep, wrong, THREE)
            self.refused(InvalidName, wrong, console.keep, wrong, None)
            self.refused(UnknownName, wrong, console.drop, wrong)
            self.refused(UnknownName, wrong, console.book, wrong)
        for name in ("other", "thre", "threee", "a"):
            self.refused(UnknownName, name, console.drop, name)
            self.refused(UnknownName, name, console.book, name)
        self.assertEqual(self.state(console), before)

    def test_the_very_value_is_named(self):
        for wrong in ([], ["a"], object(), {}):
            for error, call, rest in ((InvalidName, Console().keep, (THREE,)), (UnknownName, Console().drop, ()),
                                      (UnknownName, Console().book, ()), (Unorderly, Console().order, ())):
                with self.assertRaises(error) as caught:
                    call(wrong, *rest)
                self.assertIs(caught.exception.value, wrong)

    def test_wrong_books(self):
        console = self.filled()
        before = self.state(console)
        for wrong in no_books():
            self.refused(InvalidBook, wrong, console.keep, "three", wrong)
            self.refused(InvalidBook, wrong, console.keep, "new", wrong)
        self.assertEqual(self.state(console), before)
        for _ in range(4):
            console.undo()
        self.refused(NothingToUndo, 0, console.undo)


class Undone(Trying):
    def test_one_by_one_to_the_first(self):
        console = Console()
        states = []
        for name, book in (("a", THREE), ("b", CROSS), ("a", STAR), ("c", STRIPES), ("b", THREE)):
            states.append(self.state(console))
            console.keep(name, book)
        for name in ("a", "c", "b"):
            states.append(self.state(console))
            console.drop(name)
        for before in states[::-1]:
            self.assertIsNone(console.undo())
            self.assertEqual(self.state(console), before)
        self.refused(NothingToUndo, 0, console.undo)

    def test_a_new_book_takes_the_place_of_an_elder_one(self):
        console = Console()
        console.keep("a", THREE)
        console.keep("a", CROSS)
        self.assertEqual(self.state(console), [("a", CROSS)])
        console.undo()
        self.assertEqual(self.state(console), [("a", THREE)])
        console.order("turned a a 0")
        self.assertEqual(console.book("a"), turned(THREE, 0))
        console.order("undo")
        self.assertEqual(console.book("a"), THREE)

    def test_the_same_book_again_is_a_change(self):
        console = Console()
        console.keep("a", THREE)
        console.keep("a", THREE)
        console.undo()
        self.assertEqual(console.names(), ["a"])
        console.undo()
        self.assertEqual(console.names(), [])

    def test_what_is_taken_back_is_not_taken_back_again(self):
        console = Console()
        console.keep("a", THREE)
        console.keep("b", CROSS)
        console.undo()
        console.keep("c", STAR)
        console.undo()
        console.undo()
        self.assertEqual(console.names(), [])
        self.refused(NothingToUndo, 0, console.undo)
        self.refused(NothingToUndo, 0, console.order, "undo")

    def test_questions_and_refused_calls_are_no_changes(self):
        console = Console()
        console.keep("a", THREE)
        for text in ("show a", "names", "count a", "walls a +++", "row a 0 0", "comes a ???"):
            console.order(text)
        for text in ("drop b", "merged b a 7", "without c b 0", "book a\nx", "show b", "nonsense", "walls a 0--"):
            self.assertRaises(BookError, console.order, text)
        console.undo()
        self.assertEqual(console.names(), [])

    def test_six_hundred_changes(self):
        console = Console()
        chance = Random(7)
        states = []
        while len(states) < 600:
            name = chance.choice("abcd")
            before = self.state(console)
            kind = chance.randrange(5)
            try:
                if kind == 0:
                    console.drop(name)
                elif kind == 1:
                    console.order("drop " + name)
                elif kind == 2:
                    console.order("book " + name + "\n" + show_book(chance.choice(BOOKS[4:9])))
                elif kind == 3:
                    console.order("turned " + name + " " + chance.choice("abcd") + " " + str(chance.randrange(3)))
                else:
                    console.keep(name, chance.choice(BOOKS))
            except (UnknownName, InvalidIndex):
                self.assertEqual(self.state(console), before)
                continue
            states.append(before)
            if chance.randrange(4) == 0:
                chance.choice((console.undo, lambda: console.order("undo")))()
                self.assertEqual(self.state(console), states.pop())
        for before in states[::-1]:
            console.undo()
            self.assertEqual(self.state(console), before)
        self.refused(NothingToUndo, 0, console.undo)


class Orders(Trying):
    def test_told(self):
        console = Console()
        told = [("names", "none"), ("book three\n" + SHOWN, "done"), ("names", "three"), ("show three", SHOWN),
                ("row three 0 1/2", "0+-"), ("comes three --+", "no"), ("comes three 0?-", "yes"),
                ("comes three ???", "yes"), ("first three 0??", "0--"), ("first three --+", "no"),
                ("first three +++", "+++"), ("count three", "7 1"), ("polynomial three", "1 -3 3"),
                ("steps three --- +++", "3"), ("roads three --- +++", "4"), ("walls three ++-", "0 1 2"),
                ("steps three +++ +++", "0"), ("roads three +++ +++", "1"), ("without two three 2", "done"),
                ("show two", "book 2\n1 0 : 0\n0 1 : 0"), ("turned three three 1", "done"),
                ("show three", "book 2\n1 0 : 0\n0 -1 : 0\n1 1 : 1"), ("merged m three 2", "done"),
                ("show m", "book 1\n1 : 0\n1 : 1"), ("names", "m\nthree\ntwo"), ("undo", "done"), ("undo", "done"),
                ("show three", SHOWN), ("drop three", "done"), ("names", "two"), ("undo", "done"),
                ("names", "three\ntwo"), ("book none\nbook 3", "done"), ("walls none .", "none"),
                ("row none 1 2/3 -4", "."), ("comes none .", "yes"), ("paper none .", "no"), ("first none .", "."),
                ("count none", "1 0"), ("polynomial none", "1 0 0 0"), ("show none", "book 3"),
                ("steps none . .", "0"), ("roads none . .", "1"), ("paper three +++", "no")]
        for text, answer in told:
            found = console.order(text)
            self.assertEqual(found, answer, text)
            self.assertIs(type(found), str)

    def test_each_answers_as_the_functions_do(self):
        for book in (THREE, CROSS, STAR, STRIPES, CORNER, SHELF, BOOKS[1], BOOKS[4]):
            console = Console()
            self.assertEqual(console.order("book b\n" + show_book(book)), "done")
            self.assertEqual(console.book("b"), book)
            self.assertEqual(read_book(console.order("show b")), book)
            full, every = all_full(book), all_rows(book)
            self.assertEqual(console.order("count b"), "{} {}".format(*polynomials.how_many(book)))
            self.assertEqual(console.order("polynomial b"), " ".join(str(x) for x in polynomials.polynomial(book)))
            for point in [point for point in points_of(book[0], 20)
                          if all(abs(x) < FORTY // 9 for a in point for x in a)]:
                self.assertEqual(console.order("row b " + show_point(point)), show_row(points.row_of(book, point)))
            for row in full[::3]:
                answer = console.order("walls b " + show_row(row))
                self.assertEqual(answer, " ".join(str(k) for k in rows.walls(book, row)) or "none")
                ends = show_row(row) + " " + show_row(full[-1])
                self.assertEqual(console.order("steps b " + ends), str(roads.steps(book, row, full[-1])))
                self.assertEqual(console.order("roads b " + ends), str(roads.how_many_roads(book, row, full[-1])))
            for row in every[::5] + [tuple(-a for a in row) for row in every[::5]]:
                wish = tuple(None if k % 3 == 1 else a for k, a in enumerate(row))
                for told in (wish, row):
                    self.about_wish(console, book, told)

    def about_wish(self, console, book, wish):
        comes = papers.comes(book, wish)
        text = " b " + show_wish(wish)
        self.assertEqual(console.order("comes" + text), "yes" if comes else "no")
        self.assertEqual(console.order("first" + text), show_row(rows.first_row(book, wish)) if comes else "no")
        answer = console.order("paper" + text)
        self.assertIs(answer == "no", comes)
        if not comes:
            self.assertIs(papers.is_paper(book, wish, read_point(answer)), True)

    def test_books_that_are_made(self):
        console = self.filled()
        console.order("without a three 0")
        console.order("turned b three 2")
        console.order("merged c three 1")
        self.assertEqual(console.book("a"), without(THREE, 0))
        self.assertEqual(console.book("b"), turned(THREE, 2))
        self.assertEqual(console.book("c"), polynomials.merged(THREE, 1))
        console.order("without three three 0")
        self.assertEqual(console.book("three"), without(THREE, 0))

    def test_unknown_names(self):
        console = self.filled()
        before = self.state(console)
        for text in ("show x", "row x 0", "comes x ?", "paper x ?", "first x ?", "count x", "polynomial x",
                     "steps x + +", "roads x + +", "walls x +", "drop x", "without a x 0", "turned three x -1",
                     "merged x x 999"):
            self.refused(UnknownName, "x", console.order, text)
        self.assertEqual(self.state(console), before)

    def test_unreadable_books(self):
        console = self.filled()
        before = self.state(console)
        for lines, n in (("", 1), ("\n", 1), ("book", 1), ("1 : 0", 1), ("book 2\n", 2), ("book 2\n1 0 : 0\nx", 3),
                         ("book 2\n1 0 : 0\n\n0 1 : 0", 3), (SHOWN + "\n", 5), ("book 0", 0), ("book 2\n1 : 0", 0),
                         ("book 1\n1 : 0\n2 : 0", 0), (" " + SHOWN, 1), ("book 1\n1 : 1/2", 2),
                         ("book a\n" + SHOWN, 1)):
            self.refused(Unreadable, n, console.order, "book three\n" + lines)
            self.refused(Unreadable, n, console.order, "book new\n" + lines)
        self.assertEqual(self.state(console), before)

    def test_errors_of_the_functions(self):
        console = self.filled()
        before = self.state(console)
        for text, error, value in (
                ("without a three 3", InvalidIndex, 3), ("without a none 0", InvalidIndex, 0),
                ("turned three three -1", InvalidIndex, -1), ("turned a three 999999999", InvalidIndex, 999999999),
                ("merged a three 3", InvalidIndex, 3), ("merged a none 0", InvalidBook, (1, ())),
                ("row three 1/2", InvalidPoint, ((1, 2),)), ("row three 0 0 0", InvalidPoint, ((0, 1),) * 3),
                ("comes three ??", InvalidWish, (None, None)), ("paper three .", InvalidWish, ()),
                ("first three ????", InvalidWish, (None,) * 4), ("first none ?", InvalidWish, (None,)),
                ("steps three -- +++", InvalidRow, (-1, -1)), ("steps three --- ++++", InvalidRow, (1,) * 4),
                ("roads three --+ ---", NeverComes, (-1, -1, 1)), ("roads three --- --+", NeverComes, (-1, -1, 1)),
                ("steps three --0 .", InvalidRow, ()), ("steps three 00- 0+-", NotFull, (0, 0, -1)),
                ("roads three +++ 0+-", NotFull, (0, 1, -1)), ("walls three 00-", NotFull, (0, 0, -1)),
                ("walls three 000", NeverComes, (0, 0, 0)), ("walls three .", InvalidRow, ())):
            self.refused(error, value, console.order, text)
        self.assertEqual(self.state(console), before)

    def test_no_orders(self):
        console = self.filled()
        before = self.state(console)
        wrong = ["", " ", "\n", "nonsense", "three", "Show three", "SHOW three", "shows three", "show", "show ",
                 "show  three", " show three", "show three ", "show three cross", "show Three", "show thr33",
                 "show ninechars", "show three\n", "show\tthree", "book", "book ", "book three",
                 "book Three\n" + SHOWN, "book three x\n" + SHOWN, "book ninechars\n" + SHOWN, "book  three\n" + SHOWN,
                 "book\n" + SHOWN, "book 2", SHOWN, "undo three", "undo ", "undo\n", "names ", "names three",
                 "names\n", "names\nnames", "drop", "drop ", "drop three cross", "drop THREE", "without a three",
                 "without a three ", "without a three x", "without a three 0 0", "without three 0",
                 "without a  three 0", "without A three 0", "without a three 00", "without a three -0",
                 "without a three +1", "without a three 1/2", "without a three 1000000000", "without a 0 three",
                 "turned a three", "merged a three", "merged a three 0\n", "turned a three one", "row three",
                 "row three ", "row three 0  0", "row three 0 0 ", "row three 2/4 0", "row three 0 01",
                 "row three 0,0", "row 0 0", "row three +0", "row three 0 0\n0 0", "comes three", "comes three ",
                 "comes three --x", "comes three ? ?", "comes three ???\n", "comes three (?)", "paper three",
                 "paper three 1", "first three", "first three ?*?", "count", "count three x", "count three\n",
                 "polynomial three 2", "polynomial", "steps three ---", "steps three --- --- ---",
                 "steps three --- --?", "steps three --? ---", "roads three", "roads three ---+++", "roads three --- ",
                 "walls three", "walls three ?--", "walls three --- +++", "walls --- three",
                 "count three\ncount three", "value three", "rows three", "keep a", "help", "names;", "undo undo", "?",
                 "show  ", "row three 0 0 : 1", "walls three ---\n"]
        for text in wrong:
            self.refused(Unorderly, text, console.order, text)
        for text in (None, 7, True, ["names"], b"names", ("names",)):
            self.refused(Unorderly, text, console.order, text)
        self.assertEqual(self.state(console), before)

    def test_no_order_goes_before_all_else(self):
        console = Console()
        for text in ("show x y", "without a x y", "row x 0 00", "book X\nx", "walls x ?", "steps x - ?", "undo 0",
                     "drop x x"):
            self.refused(Unorderly, text, console.order, text)
        self.refused(UnknownName, "x", console.order, "row x 0")
        self.refused(UnknownName, "b", console.order, "merged a b 0")

    def test_what_is_shown_is_an_order(self):
        console = self.filled()
        for name in console.names():
            console.order("book other\n" + console.order("show " + name))
            self.assertEqual(console.book("other"), console.book(name))
        row = console.order("row three 1/3 1/3")
        self.assertEqual(console.order("comes three " + row), "yes")
        self.assertEqual(console.order("first three " + row), row)
        self.assertEqual(rows.walls(THREE, read_row(row)),
                         tuple(int(x) for x in console.order("walls three " + row).split()))
        self.assertEqual(read_wish(row), read_row(row))


if __name__ == "__main__":
    unittest.main()

"""Point [1] for the files from papers.py to roads.py: the error that the section lists first, with the value."""

import unittest
from itertools import combinations, product

from sidebooks import alikes, flats, papers, polynomials, products, roads, rows
from sidebooks.errors import (InvalidBook, InvalidIndex, InvalidNumber, InvalidPair, InvalidPaper, InvalidRow,
                              InvalidWish, NeverComes, NotFull)
from tests.oracle import all_flats, all_rows
from tests.samples import (BOOKS, CORNER, CROSS, FORTY, NO_INTEGERS, SHELF, STAR, STRIPES, THREE, no_books,
                           no_index_tuples, no_indexes, no_papers, no_rows, no_wishes)

LOW, HIGH = (-1, -1, -1), (1, 1, 1)
TRIED = [THREE, STRIPES, CROSS, STAR, CORNER, SHELF, BOOKS[1], BOOKS[4], (3, BOOKS[14][1][:2])]


def never_rows(book):
    """Rows of a book that no point has."""
    every = list(product((-1, 0, 1), repeat=len(book[1])))
    never = [row for row in every if row not in set(all_rows(book))]
    return never[::max(1, len(never) // 40)]


def rows_with_0(book):
    return [row for row in all_rows(book) if 0 in row]


def no_flats(book):
    """What is no flat: no tuple of indexes, or one that is not all questions, ascending, of some flat."""
    some = [told for many in range(4) for told in product(range(len(book[1])), repeat=many)]
    return no_index_tuples(book) + [told for told in some if told not in all_flats(book)]


def no_lists_of_rows(book):
    """Each with the value that is named: of some that are wrong the first one, else itself."""
    right = all_rows(book)[0]
    whole = [None, True, 7, "r", b"r", {}, object(), {right: 1}]
    found = [(value, value) for value in whole]
    for wrong in no_rows(book):
        found += [([wrong], wrong), ((right, wrong), wrong), ([right, wrong, None, right], wrong)]
    return found


def kinds_of_wrong(kind, book):
    """For a kind of argument: all (error, argument, value that is named)."""
    if kind == "book":
        return [(InvalidBook, wrong, wrong) for wrong in no_books()]
    if kind == "book of two":
        lone = [(1, ()), (1, (((2,), 3),)), (1, (((2,), 3), ((1,), 0)))]
        return [(InvalidBook, wrong, wrong) for wrong in no_books() + lone]
    if kind == "wish":
        return [(InvalidWish, wrong, wrong) for wrong in no_wishes(book)]
    if kind == "paper":
        return [(InvalidPaper, wrong, wrong) for wrong in no_papers(book)]
    if kind == "some rows":
        never = [(NeverComes, [all_rows(book)[0], row, (0,) * len(row)], row) for row in never_rows(book)]
        return [(InvalidRow, wrong, value) for wrong, value in no_lists_of_rows(book)] + never
    if kind == "index":
        return [(InvalidIndex, wrong, wrong) for wrong in no_indexes(book)]
    if kind == "indexes":
        return [(InvalidIndex, wrong, wrong) for wrong in no_index_tuples(book)]
    if kind == "flat":
        return [(InvalidIndex, wrong, wrong) for wrong in no_flats(book)]
    found = [(InvalidRow, wrong, wrong) for wrong in no_rows(book)]
    found += [(NeverComes, wrong, wrong) for wrong in never_rows(book)]
    if kind == "full row":
        found += [(NotFull, wrong, wrong) for wrong in rows_with_0(book)]
    return found


# The errors of each section, in its order.
PAPERS = [InvalidBook, InvalidWish, InvalidPaper]
ROWS = [InvalidBook, InvalidRow, InvalidWish, NeverComes, NotFull]
PRODUCTS = [InvalidBook, InvalidRow, NeverComes]
FLATS = [InvalidBook, InvalidIndex, InvalidRow, NeverComes]
POLYNOMIALS = [InvalidBook, InvalidIndex, InvalidNumber]
ROADS = [InvalidBook, InvalidRow, NeverComes, NotFull, InvalidIndex]
ENDS = ["book", "full row", "full row"]

CALLS = [
    (papers.settle, ["book", "wish"], PAPERS),
    (papers.comes, ["book", "wish"], PAPERS),
    (papers.is_paper, ["book", "wish", "paper"], PAPERS),
    (papers.short_paper, ["book", "wish"], PAPERS),
    (papers.forced, ["book", "wish"], PAPERS),
    (rows.rows, ["book"], ROWS),
    (rows.full_rows, ["book"], ROWS),
    (rows.held_rows, ["book"], ROWS),
    (rows.is_held, ["book", "row"], ROWS),
    (rows.noughts, ["book"], ROWS),
    (rows.walls, ["book", "full row"], ROWS),
    (rows.first_row, ["book", "wish"], ROWS),
    (products.ahead, ["book", "row", "row"], PRODUCTS),
    (products.ahead_all, ["book", "some rows"], PRODUCTS),
    (products.parts, ["book", "row", "row"], PRODUCTS),
    (products.is_under, ["book", "row", "row"], PRODUCTS),
    (products.above, ["book", "row"], PRODUCTS),
    (alikes.barred, ["book"], [InvalidBook]),
    (flats.flats, ["book"], FLATS),
    (flats.closure, ["book", "indexes"], FLATS),
    (flats.free, ["book", "flat"], FLATS),
    (flats.sign_number, ["book", "flat"], FLATS),
    (flats.flat_of, ["book", "row"], FLATS),
    (polynomials.polynomial, ["book"], POLYNOMIALS),
    (polynomials.merged, ["book of two", "index"], POLYNOMIALS),
    (polynomials.how_many, ["book"], POLYNOMIALS),
    (polynomials.rows_by_free, ["book"], POLYNOMIALS),
    (roads.steps, ENDS, ROADS),
    (roads.next_steps, ENDS, ROADS),
    (roads.roads, ENDS, ROADS),
    (roads.how_many_roads, ENDS, ROADS),
    (roads.is_road, ENDS + ["indexes"], ROADS),
    (roads.farthest, ["book"], ROADS),
]


def right_arguments(kinds, book):
    full = [row for row in all_rows(book) if 0 not in row]
    right = {"book": book, "book of two": book, "wish": (None,) * len(book[1]), "row": all_rows(book)[0],
             "full row": full[-1], "some rows": [all_rows(book)[-1]], "paper": ((0, 1),) * len(book[1]),
             "index": 0, "indexes": (), "flat": ()}
    return [right[kind] for kind in kinds]


def two_of_each(found):
    """Two of each error, not all: pairs of them are many."""
    kept = []
    for item in found:
        if sum(item[0] is other[0] for other in kept) < 2:
            kept.append(item)
    return kept


class WrongInputs(unittest.TestCase):
    def refused(self, error, value, call, told):
        with self.assertRaises(error, msg=(call.__name__, told)) as caught:
            call(*told)
        self.assertIs(type(caught.exception), error, (call.__name__, told))
        self.assertIs(caught.exception.value, value, (call.__name__, told))


class EachArgument(WrongInputs):
    def test_alone(self):
        for call, kinds, _ in CALLS:
            for book in TRIED[:4] if len(kinds) > 1 else [THREE]:
                right = right_arguments(kinds, book)
                for at, kind in enumerate(kinds):
                    for error, wrong, value in kinds_of_wrong(kind, book):
                        self.refused(error, value, call, right[:at] + [wrong] + right[at + 1:])

    def test_of_other_books(self):
        for call, kinds, _ in CALLS:
            for book in TRIED[4:] if len(kinds) > 1 and "index" not in kinds else []:
                right = right_arguments(kinds, book)
                for at, kind in list(enumerate(kinds))[1:]:
                    for error, wrong, value in kinds_of_wrong(kind, book)[::3]:
                        self.refused(error, value, call, right[:at] + [wrong] + right[at + 1:])

    def test_two_at_once(self):
        for call, kinds, order in CALLS:
            right = right_arguments(kinds, THREE)
            wrongs = [two_of_each(kinds_of_wrong(kind, THREE)) for kind in kinds]
            for at, to in combinations(range(len(kinds)), 2):
                for first, second in product(wrongs[at], wrongs[to]):
                    told = list(right)
                    told[at], told[to] = first[1], second[1]
                    error, _, value = min(first, second, key=lambda item: order.index(item[0]))
                    self.refused(error, value, call, told)

    def test_all_at_once(self):
        for call, kinds, order in CALLS:
            wrongs = [two_of_each(kinds_of_wrong(kind, THREE)) for kind in kinds[1:]]
            for some in product(*wrongs):
                told = [wrong for _, wrong, _ in some]
                self.refused(InvalidBook, None, call, [None] + told)
                if some:
                    error, _, value = min(some, key=lambda item: order.index(item[0]))
                    self.refused(error, value, call, [THREE] + told)

    def test_the_row_of_another_book(self):
        for call in (products.ahead, products.parts, products.is_under, roads.steps, roads.roads):
            self.refused(InvalidRow, (1, 1), call, [THREE, (1, 1), LOW])
        for short in ((1, 1), (1, 1, 1, 1)):
            self.refused(InvalidRow, short, rows.walls, [THREE, short])
            self.refused(InvalidRow, short, products.ahead, [THREE, (-1, -1, 1), short])


class Products(WrongInputs):
    def test_a_wrong_row_goes_before_one_that_never_comes(self):
        never, wrong = (-1, -1, 1), [1, 1, 1]
        self.refused(InvalidRow, wrong, products.ahead, [THREE, never, wrong])
        self.refused(InvalidRow, wrong, products.ahead_all, [THREE, [never, LOW, wrong]])
        self.refused(NeverComes, never, products.ahead_all, [THREE, [LOW, never, (0, 0, 0)]])
        self.refused(NeverComes, never, products.ahead, [THREE, never, (0, 0, 0)])

    def test_ahead_all_of_none_where_the_row_of_noughts_never_comes(self):
        for book in (THREE, STRIPES, BOOKS[2]):
            for none in ([], ()):
                with self.assertRaises(NeverComes) as caught:
                    products.ahead_all(book, none)
                self.assertEqual(caught.exception.value, (0,) * len(book[1]))


class Alikes(WrongInputs):
    def test_the_books(self):
        for call in (alikes.unlike, alikes.alike_by):
            for wrong in no_books():
                self.refused(InvalidBook, wrong, call, [wrong, THREE])
                self.refused(InvalidBook, wrong, call, [THREE, wrong])
                self.refused(InvalidBook, wrong, call, [wrong, []])
                self.refused(InvalidBook, wrong, call, [wrong, SHELF])
                self.refused(InvalidBook, wrong, call, [SHELF, wrong])

    def test_not_as_many_questions(self):
        for call in (alikes.unlike, alikes.alike_by):
            for one, other in ((THREE, CROSS), (CROSS, THREE), ((1, ()), BOOKS[1]), (STAR, STRIPES), (THREE, (2, ()))):
                with self.assertRaises(InvalidPair) as caught:
                    call(one, other)
                self.assertEqual(caught.exception.value, (len(one[1]), len(other[1])))
                self.assertIs(type(caught.exception.value), tuple)


class Flats(WrongInputs):
    def test_no_flat(self):
        for call in (flats.free, flats.sign_number):
            for wrong in ((0, 1, 2), (1, 0), (0, 0), (2, 0), (0, 1, 1)):
                self.refused(InvalidIndex, wrong, call, [THREE, wrong])
            for wrong in ((0, 1), (0, 1, 2), (0, 1, 3, 2), (3, 2, 1, 0)):
                self.refused(InvalidIndex, wrong, call, [STAR, wrong])
            for wrong in ((0, 3), (0, 1), (3, 1, 0), (0, 1, 2, 3, 4)):
                self.refused(InvalidIndex, wrong, call, [SHELF, wrong])

    def test_for_closure_they_are_indexes(self):
        for some in ((0, 1, 2), (1, 0), (0, 0), (2, 0)):
            flats.closure(THREE, some)


class Polynomials(WrongInputs):
    def test_no_polynomial(self):
        wrong = [None, True, 7, "12", "", b"1", {}, object(), (), [], [1, 2], [1]]
        wrong += [(x,) for x in NO_INTEGERS] + [(1, x, 2) for x in NO_INTEGERS] + [(1, -3, x) for x in NO_INTEGERS]
        for told in wrong:
            self.refused(InvalidNumber, told, polynomials.value, [told, 2])
            self.refused(InvalidNumber, told, polynomials.value, [told, None])

    def test_no_integer(self):
        for told in NO_INTEGERS + [(1, 2), (0, 1)]:
            self.refused(InvalidNumber, told, polynomials.value, [(1, -3, 3), told])
            self.refused(InvalidNumber, told, polynomials.value, [(FORTY,), told])

    def test_merged_of_one_unknown(self):
        for book in ((1, ()), BOOKS[1], BOOKS[3]):
            for index in (0, -1, None, 99):
                self.refused(InvalidBook, book, polynomials.merged, [book, index])

    def test_merged_of_no_questions(self):
        for index in (0, 1, -1, None):
            self.refused(InvalidIndex, index, polynomials.merged, [(2, ()), index])


if __name__ == "__main__":
    unittest.main()

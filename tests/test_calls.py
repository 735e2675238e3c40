"""Point [1]: arguments stay as they were; calls by name, and calls made again."""

import copy
import inspect
import unittest

from sidebooks import alikes, books, flats, papers, points, polynomials, products, roads, rows
from sidebooks.errors import BookError
from tests.samples import BOOKS, FORTY, MORE_BOOKS, SHELF, SPREAD, STRIPES, THREE, no_points

P, Q = ((0, 1), (1, 2)), ((-5, 3), (FORTY, 2))
QUESTIONS = [((2, 4), 6), ((-1, -2), -3), ((0, 3), 1)]
EVERY_BOOK = [(told,) for told in MORE_BOOKS] + [([],), ([THREE],)]
BARRED, LOW, HIGH = (-1, -1, 1), (-1, -1, -1), (1, 1, 1)
ENDS = [(THREE, LOW, HIGH), (THREE, HIGH, (-1, 1, 1)), (THREE, LOW, BARRED), (THREE, [1], HIGH),
        (THREE, LOW, (1, 0, 1)), (SHELF, (-1,) * 6, (1,) * 6), ((1, ()), (), ()), ([], LOW, HIGH)]

# What the interface lists under each file.
LISTED = {
    books: "is_book book without turned moved at_once rank",
    points: "answer row_of fits between row_between",
    papers: "settle comes is_paper short_paper forced",
    rows: "rows full_rows held_rows is_held noughts walls first_row",
    products: "ahead ahead_all parts is_under above",
    alikes: "unlike alike_by barred",
    flats: "flats closure free sign_number flat_of",
    polynomials: "polynomial value merged how_many rows_by_free",
    roads: "steps next_steps roads how_many_roads is_road farthest",
}
WISHES = [(THREE, (None, 1, -1)), (THREE, BARRED), (THREE, [None] * 3), (SHELF, (1, None, 0, -1, None, None)),
          (STRIPES, (-1, 1, None)), (SPREAD, (None,) * 5), ((3, ()), ()), ([], ())]
ROWS = [(THREE, LOW), (THREE, (0, 1, -1)), (THREE, BARRED), (THREE, list(LOW)), (SHELF, (-1,) * 6), ((2, ()), ()),
        (None, LOW)]
PAIRS = [(THREE, (0, 1, -1), (1, -1, -1)), (THREE, LOW, HIGH), (THREE, BARRED, [1]), (STRIPES, LOW, BARRED),
         (SHELF, (0,) * 6, (1,) * 6), ([], LOW, LOW)]
TWO_BOOKS = [(THREE, THREE), (THREE, STRIPES), (THREE, SHELF), ([], THREE), (THREE, []), ((1, ()), (2, ()))]

# Each function with the names of its arguments, as the interface has them, and some arguments.
CALLS = [
    (books.is_book, ("told",), [(THREE,), ([2, []],), (None,), ((2, (((1, 0), 0), ((2, 0), 0))),)]),
    (books.book, ("d", "questions"), [(2, QUESTIONS), (2, tuple(QUESTIONS)), (1, []), (2, [QUESTIONS]), (0, [])]),
    (books.without, ("book", "index"), [(THREE, 0), (THREE, 2), (THREE, 3), ([THREE], 0)]),
    (books.turned, ("book", "index"), [(THREE, 1), (THREE, -1), (BOOKS[14], 5)]),
    (books.moved, ("book", "point"), [(THREE, P), (THREE, Q), (THREE, list(P)), (BOOKS[9], Q)]),
    (books.at_once, ("book",), [(told,) for told in BOOKS] + [([],)]),
    (books.rank, ("book",), [(told,) for told in BOOKS] + [([],)]),
    (points.answer, ("question", "point"), [(QUESTIONS[0], P), (QUESTIONS[1], Q), (QUESTIONS, P), (THREE[1][0], [P])]),
    (points.row_of, ("book", "point"), [(THREE, P), (BOOKS[9], Q), (THREE, [P]), ([THREE], P)]),
    (points.fits, ("book", "wish", "point"), [(THREE, (None, 1, -1), P), (THREE, (0, 0, 0), Q), (THREE, [1], P)]),
    (points.between, ("one", "other", "share"), [(P, Q, (-1, 2)), (Q, P, (3, 7)), (P, Q, [1, 2]), ([P], Q, 1)]),
    (points.row_between, ("book", "one", "other"), [(THREE, P, Q), (THREE, Q, P), (THREE, P, [Q]), ([], P, P)]),
    (papers.settle, ("book", "wish"), WISHES),
    (papers.comes, ("book", "wish"), WISHES),
    (papers.is_paper, ("book", "wish", "told"),
     [(THREE, BARRED, ((-1, 1), (-1, 1), (1, 1))), (THREE, HIGH, ((1, 2),) * 3), (THREE, HIGH, [(1, 2)] * 3),
      (THREE, [1], ()), ([], (), ())]),
    (papers.short_paper, ("book", "wish"), WISHES),
    (papers.forced, ("book", "wish"), WISHES),
    (rows.rows, ("book",), EVERY_BOOK),
    (rows.full_rows, ("book",), EVERY_BOOK),
    (rows.held_rows, ("book",), EVERY_BOOK),
    (rows.is_held, ("book", "row"), ROWS),
    (rows.noughts, ("book",), EVERY_BOOK),
    (rows.walls, ("book", "row"), ROWS),
    (rows.first_row, ("book", "wish"), WISHES),
    (products.ahead, ("book", "one", "other"), PAIRS),
    (products.ahead_all, ("book", "some"),
     [(THREE, [LOW, HIGH]), (THREE, ((0, 1, -1), LOW)), (SHELF, []), (THREE, []), (THREE, [LOW, [1]]), (THREE, {})]),
    (products.parts, ("book", "one", "other"), PAIRS),
    (products.is_under, ("book", "one", "other"), PAIRS),
    (products.above, ("book", "row"), ROWS),
    (alikes.unlike, ("one", "other"), TWO_BOOKS),
    (alikes.alike_by, ("one", "other"), TWO_BOOKS),
    (alikes.barred, ("book",), EVERY_BOOK),
    (flats.flats, ("book",), EVERY_BOOK),
    (flats.closure, ("book", "some"), [(THREE, (2, 0, 2)), (THREE, (0, 1, 2)), (THREE, [0]), (SHELF, ()), ([], ())]),
    (flats.free, ("book", "flat"), [(THREE, (0, 1)), (THREE, (1, 0)), (THREE, [0]), (SHELF, (0, 1, 3)), ([], ())]),
    (flats.sign_number, ("book", "flat"), [(THREE, (0, 1)), (THREE, (1, 0)), (THREE, [0]), (SHELF, (0, 1, 3))]),
    (flats.flat_of, ("book", "row"), ROWS),
    (polynomials.polynomial, ("book",), EVERY_BOOK),
    (polynomials.value, ("polynomial", "t"), [((1, -3, 3), -1), ((1, -3, 3), FORTY), ([1], 2), ((1,), None), ((), 1)]),
    (polynomials.merged, ("book", "index"), [(THREE, 2), (SHELF, 0), (BOOKS[1], 0), (THREE, 3), ([], 0)]),
    (polynomials.how_many, ("book",), EVERY_BOOK),
    (polynomials.rows_by_free, ("book",), EVERY_BOOK),
    (roads.steps, ("book", "one", "other"), ENDS),
    (roads.next_steps, ("book", "one", "other"), ENDS),
    (roads.roads, ("book", "one", "other"), ENDS),
    (roads.how_many_roads, ("book", "one", "other"), ENDS),
    (roads.is_road, ("book", "one", "other", "told"),
     [ends + (told,) for ends in ENDS for told in ((0, 1, 2), (2, 2), [0], (), (9,))]),
    (roads.farthest, ("book",), EVERY_BOOK),
]
EVERY_CALL = [(call, told) for call, _, some in CALLS for told in some]


def outcome(call, *told, **named):
    try:
        return ("answer", repr(call(*told, **named)))
    except BookError as error:
        return (type(error).__name__, repr(error.value))


class Calls(unittest.TestCase):
    def test_defined_where_the_interface_lists_them(self):
        for home, text in LISTED.items():
            tried = [(call, names) for call, names, _ in CALLS if call.__module__ == home.__name__]
            self.assertEqual([call.__name__ for call, _ in tried], text.split())
            for call, names in tried:
                self.assertIs(getattr(home, call.__name__), call)
                self.assertEqual(tuple(inspect.signature(call).parameters), names)
        self.assertEqual(len(CALLS), sum(len(text.split()) for text in LISTED.values()))

    def test_by_name(self):
        for call, names, some in CALLS:
            for told in some:
                named = dict(zip(names, told))
                backwards = dict(list(named.items())[::-1])
                self.assertEqual(outcome(call, **named), outcome(call, *told))
                self.assertEqual(outcome(call, **backwards), outcome(call, *told))
                mixed = dict(list(named.items())[1:])
                self.assertEqual(outcome(call, told[0], **mixed), outcome(call, *told))

    def test_arguments_stay_as_they_were(self):
        for call, told in EVERY_CALL:
            before = copy.deepcopy(told)
            outcome(call, *told)
            self.assertEqual(told, before)

    def test_made_again_behind_others(self):
        first = [outcome(call, *told) for call, told in EVERY_CALL]
        for wrong in no_points(2):
            outcome(points.row_of, THREE, wrong)
        again = [outcome(call, *told) for call, told in EVERY_CALL[::-1]][::-1]
        self.assertEqual(first, again)
        kinds = """answer InvalidBook InvalidQuestion InvalidIndex InvalidPoint InvalidWish InvalidNumber InvalidRow
            InvalidPaper InvalidPair NeverComes NotFull""".split()
        self.assertEqual({kind for kind, _ in first}, set(kinds))

    def test_lists_are_new(self):
        for call, told in EVERY_CALL:
            try:
                answer = call(*told)
            except BookError:
                continue
            if isinstance(answer, list):
                before = copy.deepcopy(answer)
                answer.clear()
                again = call(*told)
                self.assertEqual(again, before)
                self.assertIsNot(again, answer)
                answer.append("else")
                self.assertEqual(again, before)
                self.assertFalse([item for item in again if not isinstance(item, tuple)])

    def test_a_changed_list_does_not_change_the_book(self):
        told = list(QUESTIONS)
        made = books.book(2, told)
        told.clear()
        self.assertEqual(made, (2, (((1, 2), 3), ((0, 3), 1))))


if __name__ == "__main__":
    unittest.main()

"""Point [1]: arguments stay as they were; calls by name, and calls made again."""

import copy
import inspect
import unittest

from sidebooks import (alikes, books, drawings, flats, papers, points, polynomials, products, readers, roads, rows,
                       sayings, texts, walks, webs)
from sidebooks.consoles import Console
from sidebooks.errors import BookError
from tests.lots import LINE, THIRDS
from tests.samples import BOOKS, FORTY, MORE_BOOKS, SHELF, SPREAD, STRIPES, THREE, no_points

P, Q = ((0, 1), (1, 2)), ((-5, 3), (FORTY, 2))
QUESTIONS = [((2, 4), 6), ((-1, -2), -3), ((0, 3), 1)]
EVERY_BOOK = [(told,) for told in MORE_BOOKS] + [([],), ([THREE],)]
BARRED, LOW, HIGH = (-1, -1, 1), (-1, -1, -1), (1, 1, 1)
ENDS = [(THREE, LOW, HIGH), (THREE, HIGH, (-1, 1, 1)), (THREE, LOW, BARRED), (THREE, [1], HIGH),
        (THREE, LOW, (1, 0, 1)), (SHELF, (-1,) * 6, (1,) * 6), ((1, ()), (), ()), ([], LOW, HIGH)]

# What the interface lists under each file.
LISTED = {
    books: "is_book book without turned moved at_once rank",
    points: "answer row_of fits between row_between",
    papers: "settle comes is_paper short_paper forced",
    rows: "rows full_rows held_rows is_held noughts walls first_row",
    products: "ahead ahead_all parts is_under above",
    alikes: "unlike alike_by barred",
    flats: "flats closure free sign_number flat_of",
    polynomials: "polynomial value merged how_many rows_by_free",
    roads: "steps next_steps roads how_many_roads is_road farthest",
    walks: "is_lot even_lot shares table behind long_run distance bound enough led",
    webs: "is_web book_of arrows row_of rounds colourings shelf to_front order_of row_of_order",
    sayings: "is_saying holds book_for can_hold always parting",
    drawings: "drawn",
    texts: "show_number show_point show_row show_wish show_question show_book show_saying",
    readers: "read_number read_point read_row read_wish read_book read_saying",
}
METHODS = {"keep": ["name", "book"], "drop": ["name"], "undo": [], "book": ["name"], "names": [], "order": ["text"]}
WISHES = [(THREE, (None, 1, -1)), (THREE, BARRED), (THREE, [None] * 3), (SHELF, (1, None, 0, -1, None, None)),
          (STRIPES, (-1, 1, None)), (SPREAD, (None,) * 5), ((3, ()), ()), ([], ())]
ROWS = [(THREE, LOW), (THREE, (0, 1, -1)), (THREE, BARRED), (THREE, list(LOW)), (SHELF, (-1,) * 6), ((2, ()), ()),
        (None, LOW)]
PAIRS = [(THREE, (0, 1, -1), (1, -1, -1)), (THREE, LOW, HIGH), (THREE, BARRED, [1]), (STRIPES, LOW, BARRED),
         (SHELF, (0,) * 6, (1,) * 6), ([], LOW, LOW)]
LOT = ((LOW, (1, 2)), ((0, 0, -1), (1, 6)), (HIGH, (1, 3)))
STILL = (((0, 0, -1), (1, 1)),)
LOTS = [(THREE, LOT), (LINE, THIRDS), (THREE, STILL), (THREE, list(LOT)), (THREE, THIRDS), ((2, ()), (((), (1, 1)),)),
        ([], LOT)]
STARTS = [(THREE, LOT, LOW), (THREE, STILL, HIGH), (LINE, THIRDS, (1,)), (THREE, LOT, BARRED), (THREE, LOT, [1]),
          (THREE, LOT, (0, 1, -1)), (THREE, [LOT], LOW)]
RING = (4, ((0, 1), (0, 3), (1, 2), (2, 3)))
WEBS = [(RING,), ((1, ()),), ((3, [(0, 1)]),), ([],)]
WAYS = [(RING, RING[1]), (RING, ((0, 1), (3, 0), (1, 2), (2, 3))), (RING, [(0, 1)]), ((2, ()), ()), ((2, []), ())]
LESS = ("less", (1, 0), 1)
CORNER = ("both", ("is", (2, 1), 3), ("not", ("either", LESS, ("more", (0, -5), 4))))
SAYINGS = [(2, LESS), (2, CORNER), (2, ("both", LESS, ("more", (1, 0), 1))), (1, LESS), (2, ["not", LESS]), (0, LESS)]
TWO_BOOKS = [(THREE, THREE), (THREE, STRIPES), (THREE, SHELF), ([], THREE), (THREE, []), ((1, ()), (2, ()))]

# Each function with the names of its arguments, as the interface has them, and some arguments.
CALLS = [
    (books.is_book, ("told",), [(THREE,), ([2, []],), (None,), ((2, (((1, 0), 0), ((2, 0), 0))),)]),
    (books.book, ("d", "questions"), [(2, QUESTIONS), (2, tuple(QUESTIONS)), (1, []), (2, [QUESTIONS]), (0, [])]),
    (books.without, ("book", "index"), [(THREE, 0), (THREE, 2), (THREE, 3), ([THREE], 0)]),
    (books.turned, ("book", "index"), [(THREE, 1), (THREE, -1), (BOOKS[14], 5)]),
    (books.moved, ("book", "point"), [(THREE, P), (THREE, Q), (THREE, list(P)), (BOOKS[9], Q)]),
    (books.at_once, ("book",), [(told,) for told in BOOKS] + [([],)]),
    (books.rank, ("book",), [(told,) for told in BOOKS] + [([],)]),
    (points.answer, ("question", "point"), [(QUESTIONS[0], P), (QUESTIONS[1], Q), (QUESTIONS, P), (THREE[1][0], [P])]),
    (points.row_of, ("book", "point"), [(THREE, P), (BOOKS[9], Q), (THREE, [P]), ([THREE], P)]),
    (points.fits, ("book", "wish", "point"), [(THREE, (None, 1, -1), P), (THREE, (0, 0, 0), Q), (THREE, [1], P)]),
    (points.between, ("one", "other", "share"), [(P, Q, (-1, 2)), (Q, P, (3, 7)), (P, Q, [1, 2]), ([P], Q, 1)]),
    (points.row_between, ("book", "one", "other"), [(THREE, P, Q), (THREE, Q, P), (THREE, P, [Q]), ([], P, P)]),
    (papers.settle, ("book", "wish"), WISHES),
    (papers.comes, ("book", "wish"), WISHES),
    (papers.is_paper, ("book", "wish", "told"),
     [(THREE, BARRED, ((-1, 1), (-1, 1), (1, 1))), (THREE, HIGH, ((1, 2),) * 3), (THREE, HIGH, [(1, 2)] * 3),
      (THREE, [1], ()), ([], (), ())]),
    (papers.short_paper, ("book", "wish"), WISHES),
    (papers.forced, ("book", "wish"), WISHES),
    (rows.rows, ("book",), EVERY_BOOK),
    (rows.full_rows, ("book",), EVERY_BOOK),
    (rows.held_rows, ("book",), EVERY_BOOK),
    (rows.is_held, ("book", "row"), ROWS),
    (rows.noughts, ("book",), EVERY_BOOK),
    (rows.walls, ("book", "row"), ROWS),
    (rows.first_row, ("book", "wish"), WISHES),
    (products.ahead, ("book", "one", "other"), PAIRS),
    (products.ahead_all, ("book", "some"),
     [(THREE, [LOW, HIGH]), (THREE, ((0, 1, -1), LOW)), (SHELF, []), (THREE, []), (THREE, [LOW, [1]]), (THREE, {})]),
    (products.parts, ("book", "one", "other"), PAIRS),
    (products.is_under, ("book", "one", "other"), PAIRS),
    (products.above, ("book", "row"), ROWS),
    (alikes.unlike, ("one", "other"), TWO_BOOKS),
    (alikes.alike_by, ("one", "other"), TWO_BOOKS),
    (alikes.barred, ("book",), EVERY_BOOK),
    (flats.flats, ("book",), EVERY_BOOK),
    (flats.closure, ("book", "some"), [(THREE, (2, 0, 2)), (THREE, (0, 1, 2)), (THREE, [0]), (SHELF, ()), ([], ())]),
    (flats.free, ("book", "flat"), [(THREE, (0, 1)), (THREE, (1, 0)), (THREE, [0]), (SHELF, (0, 1, 3)), ([], ())]),
    (flats.sign_number, ("book", "flat"), [(THREE, (0, 1)), (THREE, (1, 0)), (THREE, [0]), (SHELF, (0, 1, 3))]),
    (flats.flat_of, ("book", "row"), ROWS),
    (polynomials.polynomial, ("book",), EVERY_BOOK),
    (polynomials.value, ("polynomial", "t"), [((1, -3, 3), -1), ((1, -3, 3), FORTY), ([1], 2), ((1,), None), ((), 1)]),
    (polynomials.merged, ("book", "index"), [(THREE, 2), (SHELF, 0), (BOOKS[1], 0), (THREE, 3), ([], 0)]),
    (polynomials.how_many, ("book",), EVERY_BOOK),
    (polynomials.rows_by_free, ("book",), EVERY_BOOK),
    (roads.steps, ("book", "one", "other"), ENDS),
    (roads.next_steps, ("book", "one", "other"), ENDS),
    (roads.roads, ("book", "one", "other"), ENDS),
    (roads.how_many_roads, ("book", "one", "other"), ENDS),
    (roads.is_road, ("book", "one", "other", "told"),
     [ends + (told,) for ends in ENDS for told in ((0, 1, 2), (2, 2), [0], (), (9,))]),
    (roads.farthest, ("book",), EVERY_BOOK),
    (walks.is_lot, ("book", "told"), LOTS),
    (walks.even_lot, ("book", "some"),
     [(THREE, [HIGH, LOW]), (THREE, (LOW,)), (THREE, [LOW, LOW]), (THREE, []), ([], [])]),
    (walks.shares, ("book", "lot"), LOTS),
    (walks.table, ("book", "lot"), LOTS),
    (walks.behind, ("book", "lot", "row", "n"), [start + (n,) for start in STARTS for n in (0, 3, -1, None)]),
    (walks.long_run, ("book", "lot"), LOTS),
    (walks.distance, ("book", "lot", "row", "n"), [start + (n,) for start in STARTS for n in (0, 3, -1)]),
    (walks.bound, ("book", "lot", "n"), [told + (n,) for told in LOTS for n in (0, 3, True)]),
    (walks.enough, ("book", "lot", "far"),
     [told + (far,) for told in LOTS for far in ((1, 9), (3, 1), (0, 1), [1, 2])]),
    (walks.led, ("book", "lot", "row", "tape"),
     [start + (tape,) for start in STARTS for tape in ((), ((1, 2), (0, 1)), [(1, 2)], ((1, 1),))]),
    (webs.is_web, ("told",), WEBS),
    (webs.book_of, ("web",), WEBS),
    (webs.arrows, ("web", "row"),
     [(RING, (-1,) * 4), (RING, (-1, 1, -1, -1)), (RING, (0,) * 4), (RING, [1]), ([], ())]),
    (webs.row_of, ("web", "told"), WAYS),
    (webs.rounds, ("web", "told"), WAYS),
    (webs.colourings, ("web", "k"), [(RING, 3), (RING, 0), (RING, -1), ((1, ()), 100), ([], 3)]),
    (webs.shelf, ("n",), [(1,), (4,), (0,), ("4",)]),
    (webs.to_front, ("n", "i"), [(1, 0), (4, 2), (4, 4), (0, 0)]),
    (webs.order_of, ("n", "row"), [(3, (1, 0, -1)), (3, (-1, 1, -1)), (3, [1]), (1, ()), (True, ())]),
    (webs.row_of_order, ("n", "order"), [(3, ((1,), (0, 2))), (3, ((1,), (2, 0))), (3, [(0, 1, 2)]), (0, ())]),
    (sayings.is_saying, ("d", "told"), SAYINGS),
    (sayings.holds, ("d", "saying", "point"), [told + (point,) for told in SAYINGS for point in (P, Q, [P])]),
    (sayings.book_for, ("d", "saying"), SAYINGS),
    (sayings.can_hold, ("d", "saying"), SAYINGS),
    (sayings.always, ("d", "saying"), SAYINGS),
    (sayings.parting, ("d", "one", "other"), [told + (other,) for told in SAYINGS for other in (LESS, CORNER, [LESS])]),
    (drawings.drawn, ("book", "left", "low", "wide", "high", "size"),
     [(THREE, -1, -1, 4, 4, 1), (STRIPES, 0, -3, 5, 2, 3), (LINE, 0, 0, 1, 1, 1), (THREE, None, 0, 1, 1, 0),
      ([], 0, 0, 0, 0, 1)]),
    (texts.show_number, ("a",), [((1, 2),), ((-3, 1),), ((FORTY, 2),)]),
    (texts.show_point, ("point",), [(P,), (Q,)]),
    (texts.show_row, ("row",), [(LOW,), ((),), ((1, 0, -1),)]),
    (texts.show_wish, ("wish",), [((None, 1),), ((),), (HIGH,)]),
    (texts.show_question, ("question",), [(QUESTIONS[0],), (((FORTY,), -1),)]),
    (texts.show_book, ("book",), [(THREE,), (SHELF,), ((3, ()),)]),
    (texts.show_saying, ("saying",), [(LESS,), (CORNER,)]),
    (readers.read_number, ("text",), [("1/2",), ("2/4",), ("1\n",), ("",)]),
    (readers.read_point, ("text",), [("1/2 0",), ("1  2",), ("1 2\n3",)]),
    (readers.read_row, ("text",), [(".",), ("+0-",), ("+?-",), ("+\n",)]),
    (readers.read_wish, ("text",), [(".",), ("+?-",), ("x",)]),
    (readers.read_book, ("text",), [("book 2\n1 0 : 0",), ("book 1\n0 : 0",), ("book 1\n",), ("",)]),
    (readers.read_saying, ("text",), [("(not (less [1 0] 1))",), ("(not (less [1 0] 1)",), ("(is [0] 0)\n",)]),
]
EVERY_CALL = [(call, told) for call, _, some in CALLS for told in some]


def outcome(call, *told, **named):
    try:
        return ("answer", repr(call(*told, **named)))
    except BookError as error:
        return (type(error).__name__, repr(error.value))


class Calls(unittest.TestCase):
    def test_defined_where_the_interface_lists_them(self):
        for home, text in LISTED.items():
            tried = [(call, names) for call, names, _ in CALLS if call.__module__ == home.__name__]
            self.assertEqual([call.__name__ for call, _ in tried], text.split())
            for call, names in tried:
                self.assertIs(getattr(home, call.__name__), call)
                self.assertEqual(tuple(inspect.signature(call).parameters), names)
        self.assertEqual(len(CALLS), sum(len(text.split()) for text in LISTED.values()))

    def test_methods_stand_in_their_class(self):
        self.assertEqual(Console.__module__, "sidebooks.consoles")
        self.assertEqual(list(inspect.signature(Console).parameters), [])
        for name, names in METHODS.items():
            self.assertIn(name, vars(Console))
            self.assertEqual(list(inspect.signature(getattr(Console(), name)).parameters), names)

    def test_by_name(self):
        for call, names, some in CALLS:
            for told in some:
                named = dict(zip(names, told))
                backwards = dict(list(named.items())[::-1])
                self.assertEqual(outcome(call, **named), outcome(call, *told))
                self.assertEqual(outcome(call, **backwards), outcome(call, *told))
                mixed = dict(list(named.items())[1:])
                self.assertEqual(outcome(call, told[0], **mixed), outcome(call, *told))

    def test_arguments_stay_as_they_were(self):
        for call, told in EVERY_CALL:
            before = copy.deepcopy(told)
            outcome(call, *told)
            self.assertEqual(told, before)

    def test_made_again_behind_others(self):
        first = [outcome(call, *told) for call, told in EVERY_CALL]
        for wrong in no_points(2):
            outcome(points.row_of, THREE, wrong)
        again = [outcome(call, *told) for call, told in EVERY_CALL[::-1]][::-1]
        self.assertEqual(first, again)
        kinds = """answer InvalidBook InvalidQuestion InvalidIndex InvalidPoint InvalidWish InvalidNumber InvalidRow
            InvalidPaper InvalidPair NeverComes NotFull InvalidLot InvalidTape InvalidWeb InvalidSaying NoLongRun
            HasRound Unreadable""".split()
        self.assertEqual({kind for kind, _ in first}, set(kinds))

    def test_lists_are_new(self):
        for call, told in EVERY_CALL:
            try:
                answer = call(*told)
            except BookError:
                continue
            if isinstance(answer, list):
                before = copy.deepcopy(answer)
                answer.clear()
                again = call(*told)
                self.assertEqual(again, before)
                self.assertIsNot(again, answer)
                answer.append("else")
                self.assertEqual(again, before)
                self.assertFalse([item for item in again if not isinstance(item, (tuple, str))])

    def test_a_truth_in_the_place_of_1_behind_the_right_book(self):
        truth = (2, (((True, 0), 0),) + THREE[1][1:])
        self.assertEqual(truth, THREE)
        for call, names, some in CALLS:
            for told in some:
                if names[0] in ("book", "one") and told[0] is THREE and call is not texts.show_book:
                    right = outcome(call, *told)
                    self.assertEqual(outcome(call, truth, *told[1:]), ("InvalidBook", repr(truth)))
                    self.assertEqual(outcome(call, *told), right)
        for row, wrong in ((LOW, (-1, -1, -1.0)), (HIGH, (1, True, 1)), ((0, 0, -1), (0, False, -1))):
            for call in (products.ahead, products.parts, products.is_under):
                self.assertEqual(outcome(call, THREE, row, row)[0], "answer")
                self.assertEqual(outcome(call, THREE, row, wrong), ("InvalidRow", repr(wrong)))
                self.assertEqual(outcome(call, THREE, wrong, row), ("InvalidRow", repr(wrong)))

    def test_behind_changed_lists(self):
        some = [LOW, HIGH]
        self.assertEqual(products.ahead_all(THREE, some), LOW)
        self.assertEqual([row for row, _ in walks.even_lot(THREE, some)], [LOW, HIGH])
        some.insert(0, (1, -1, -1))
        self.assertEqual(products.ahead_all(THREE, some), (1, -1, -1))
        self.assertEqual([row for row, _ in walks.even_lot(THREE, some)], [LOW, (1, -1, -1), HIGH])
        some[1] = BARRED
        self.assertEqual(outcome(products.ahead_all, THREE, some), ("NeverComes", repr(BARRED)))
        self.assertEqual(outcome(walks.even_lot, THREE, some), ("InvalidLot", repr(some)))
        questions = [list(question) for question in THREE[1]]
        told = [2, questions]
        self.assertEqual(outcome(rows.rows, told), ("InvalidBook", repr(told)))
        self.assertEqual(outcome(rows.rows, (2, tuple(questions)))[0], "InvalidBook")
        self.assertEqual(rows.rows((2, tuple(tuple(question) for question in questions))), rows.rows(THREE))

    def test_a_changed_list_does_not_change_the_book(self):
        told = list(QUESTIONS)
        made = books.book(2, told)
        told.clear()
        self.assertEqual(made, (2, (((1, 2), 3), ((0, 3), 1))))


if __name__ == "__main__":
    unittest.main()

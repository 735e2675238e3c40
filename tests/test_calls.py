"""Point [1]: arguments stay as they were; calls by name, and calls made again."""

import copy
import inspect
import unittest

from sidebooks import books, points
from sidebooks.errors import BookError
from tests.samples import BOOKS, FORTY, THREE, no_points

P, Q = ((0, 1), (1, 2)), ((-5, 3), (FORTY, 2))
QUESTIONS = [((2, 4), 6), ((-1, -2), -3), ((0, 3), 1)]

# Each function with the names of its arguments, as the interface has them, and some arguments.
CALLS = [
    (books.is_book, ("told",), [(THREE,), ([2, []],), (None,), ((2, (((1, 0), 0), ((2, 0), 0))),)]),
    (books.book, ("d", "questions"), [(2, QUESTIONS), (2, tuple(QUESTIONS)), (1, []), (2, [QUESTIONS]), (0, [])]),
    (books.without, ("book", "index"), [(THREE, 0), (THREE, 2), (THREE, 3), ([THREE], 0)]),
    (books.turned, ("book", "index"), [(THREE, 1), (THREE, -1), (BOOKS[14], 5)]),
    (books.moved, ("book", "point"), [(THREE, P), (THREE, Q), (THREE, list(P)), (BOOKS[9], Q)]),
    (books.at_once, ("book",), [(told,) for told in BOOKS] + [([],)]),
    (books.rank, ("book",), [(told,) for told in BOOKS] + [([],)]),
    (points.answer, ("question", "point"), [(QUESTIONS[0], P), (QUESTIONS[1], Q), (QUESTIONS, P), (THREE[1][0], [P])]),
    (points.row_of, ("book", "point"), [(THREE, P), (BOOKS[9], Q), (THREE, [P]), ([THREE], P)]),
    (points.fits, ("book", "wish", "point"), [(THREE, (None, 1, -1), P), (THREE, (0, 0, 0), Q), (THREE, [1], P)]),
    (points.between, ("one", "other", "share"), [(P, Q, (-1, 2)), (Q, P, (3, 7)), (P, Q, [1, 2]), ([P], Q, 1)]),
    (points.row_between, ("book", "one", "other"), [(THREE, P, Q), (THREE, Q, P), (THREE, P, [Q]), ([], P, P)]),
]
EVERY_CALL = [(call, told) for call, _, some in CALLS for told in some]


def outcome(call, *told, **named):
    try:
        return ("answer", repr(call(*told, **named)))
    except BookError as error:
        return (type(error).__name__, repr(error.value))


class Calls(unittest.TestCase):
    def test_defined_where_the_interface_lists_them(self):
        listed = {books: [], points: []}
        for call, names, _ in CALLS:
            home = books if hasattr(books, call.__name__) and call.__module__ == "sidebooks.books" else points
            listed[home].append(call.__name__)
            self.assertEqual(call.__module__, home.__name__)
            self.assertEqual(tuple(inspect.signature(call).parameters), names)
        self.assertEqual(listed[books], "is_book book without turned moved at_once rank".split())
        self.assertEqual(listed[points], "answer row_of fits between row_between".split())

    def test_by_name(self):
        for call, names, some in CALLS:
            for told in some:
                named = dict(zip(names, told))
                backwards = dict(list(named.items())[::-1])
                self.assertEqual(outcome(call, **named), outcome(call, *told))
                self.assertEqual(outcome(call, **backwards), outcome(call, *told))
                mixed = dict(list(named.items())[1:])
                self.assertEqual(outcome(call, told[0], **mixed), outcome(call, *told))

    def test_arguments_stay_as_they_were(self):
        for call, told in EVERY_CALL:
            before = copy.deepcopy(told)
            outcome(call, *told)
            self.assertEqual(told, before)

    def test_made_again_behind_others(self):
        first = [outcome(call, *told) for call, told in EVERY_CALL]
        for wrong in no_points(2):
            outcome(points.row_of, THREE, wrong)
        again = [outcome(call, *told) for call, told in EVERY_CALL[::-1]][::-1]
        self.assertEqual(first, again)
        self.assertTrue({"answer", "InvalidBook", "InvalidQuestion", "InvalidIndex", "InvalidPoint", "InvalidWish",
                         "InvalidNumber"} <= {kind for kind, _ in first})

    def test_a_changed_list_does_not_change_the_book(self):
        told = list(QUESTIONS)
        made = books.book(2, told)
        told.clear()
        self.assertEqual(made, (2, (((1, 2), 3), ((0, 3), 1))))


if __name__ == "__main__":
    unittest.main()

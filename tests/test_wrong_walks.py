"""Point [1] for walks.py, webs.py and sayings.py: the error that the section lists first, with the value."""

import unittest

from sidebooks import sayings, walks, webs
from sidebooks.errors import (HasRound, InvalidBook, InvalidIndex, InvalidLot, InvalidNumber, InvalidPair,
                              InvalidPoint, InvalidRow, InvalidSaying, InvalidTape, InvalidWeb, NeverComes, NoLongRun,
                              NotFull)
from tests.lots import LINE, THIRDS, even
from tests.samples import CROSS, FORTY, NO_INTEGERS, NO_NUMBERS, THREE, no_books, no_points, no_rows
from tests.wrongs import NO_COUNTS, NO_SIZES, NO_TUPLES, NOT_ABOVE_0, WrongInputs, each

LOW, MIDDLE, HIGH, BARRED = (-1, -1, -1), (-1, 1, 1), (1, 1, 1), (-1, -1, 1)
LOT = ((LOW, (1, 2)), ((0, 0, -1), (1, 6)), (HIGH, (1, 3)))
STILL = (((0, -1, -1), (1, 2)), ((0, 0, -1), (1, 4)), ((0, 1, 0), (1, 4)))
DOUBLED, TURNED = ((LOW, (1, 2)), (LOW, (1, 2))), ((HIGH, (1, 2)), (LOW, (1, 2)))


def no_lots():
    """What is no lot of THREE."""
    draw = (LOW, (1, 2))
    wrong = NO_TUPLES + [(), list(LOT), draw, LOT[0], LOT[:2], LOT + LOT, DOUBLED, TURNED, LOT[::-1], (draw,)]
    wrong += [((LOW, (1, 3)), (HIGH, (1, 2))), ((LOW, (2, 3)), (HIGH, (1, 2))), ((LOW, (1, 1)), (HIGH, (1, 1)))]
    wrong += [((LOW, (0, 1)), (HIGH, (1, 1))), ((LOW, (-1, 2)), (HIGH, (3, 2))), ((LOW, (3, 2)), (HIGH, (-1, 2)))]
    wrong += [((BARRED, (1, 1)),), ((LOW, (1, 2)), (BARRED, (1, 2))), (((0, 0, 0), (1, 1)),)]
    wrong += [(draw, [HIGH, (1, 2)]), (draw, (HIGH, [1, 2])), (draw, (HIGH, (1, 2), 0)), (draw, (HIGH,)), (draw, ())]
    wrong += [(draw, None), (draw, HIGH), (draw, "hi"), (draw, True), ([LOW, (1, 2)], (HIGH, (1, 2)))]
    wrong += [((row, (1, 1)),) for row in no_rows(THREE)] + [(draw, (row, (1, 2))) for row in no_rows(THREE)]
    return wrong + [((LOW, x),) for x in NO_NUMBERS] + [(draw, (HIGH, x)) for x in NO_NUMBERS]


def no_even_lots():
    """What is no list or tuple of rows of THREE that come, each once, one or more."""
    wrong = [x for x in NO_TUPLES if x != []] + [[], (), {LOW: 1}, [LOW, LOW], (LOW, HIGH, LOW), LOW, list(LOW), LOT]
    wrong += [[BARRED], (LOW, BARRED), [(0, 0, 0)], [LOW, HIGH, None]]
    return wrong + [[row] for row in no_rows(THREE)] + [(HIGH, row, LOW) for row in no_rows(THREE)]


def no_tapes():
    half = (1, 2)
    wrong = NO_TUPLES + [[half], half, (half, [1, 2]), (1,), (0, 1), ((1, 1),), ((-1, 2),), (half, (3, 2)), (half, 0)]
    wrong += [((FORTY, 1),), (half, (FORTY + 1, FORTY)), ((-1, FORTY),)]
    return wrong + [(x,) for x in NO_NUMBERS] + [(half, x, half) for x in NO_NUMBERS]


ROWS = (each(InvalidRow, no_rows(THREE)) + each(NeverComes, [BARRED, (0, 0, 0), (-1, 0, 0)])
        + each(NotFull, [(0, 1, -1), (0, 0, -1), (-1, 1, 0)]))
BOOKS = each(InvalidBook, no_books())
LOTS = each(InvalidLot, no_lots())
MANY = each(InvalidNumber, NO_COUNTS)
WALKS = [InvalidBook, InvalidLot, InvalidRow, NeverComes, NotFull, InvalidNumber, InvalidTape]
WALK_CALLS = [
    (walks.is_lot, [THREE, LOT], [BOOKS, []]),
    (walks.even_lot, [THREE, [LOW, HIGH]], [BOOKS, each(InvalidLot, no_even_lots())]),
    (walks.shares, [THREE, LOT], [BOOKS, LOTS]),
    (walks.table, [THREE, LOT], [BOOKS, LOTS]),
    (walks.behind, [THREE, LOT, LOW, 2], [BOOKS, LOTS, ROWS, MANY]),
    (walks.long_run, [THREE, LOT], [BOOKS, LOTS]),
    (walks.distance, [THREE, LOT, LOW, 2], [BOOKS, LOTS, ROWS, MANY]),
    (walks.bound, [THREE, LOT, 2], [BOOKS, LOTS, MANY]),
    (walks.enough, [THREE, LOT, (1, 2)], [BOOKS, LOTS, each(InvalidNumber, NOT_ABOVE_0)]),
    (walks.led, [THREE, LOT, LOW, ((1, 2),)], [BOOKS, LOTS, ROWS, each(InvalidTape, no_tapes())]),
]


class Walks(WrongInputs):
    def test_alone(self):
        for call, right, wrongs in WALK_CALLS:
            self.refused_alone(call, right, wrongs)

    def test_at_once(self):
        for call, right, wrongs in WALK_CALLS:
            self.refused_at_once(call, right, wrongs, WALKS)

    def test_is_lot(self):
        for wrong in no_lots():
            self.assertIs(walks.is_lot(THREE, wrong), False)
        for wrong in ([], (), ([(), (1, 1)],), (((), (1, 2)),), (((), (1, 1)), ((), (1, 1))), (((0,), (1, 1)),)):
            self.assertIs(walks.is_lot((2, ()), wrong), False)

    def test_the_lot_of_another_book(self):
        for call, rest in ((walks.shares, []), (walks.table, []), (walks.bound, [1]), (walks.led, [(-1, -1), ()])):
            self.refused(InvalidLot, LOT, call, [CROSS, LOT] + rest)
            self.refused(InvalidLot, THIRDS, call, [CROSS, THIRDS] + rest)

    def test_no_long_run(self):
        first = {STILL: 0, ((LOW, (1, 1)),): None, (((1, 0, 0), (1, 1)),): 1, (((0, 1, 0), (1, 1)),): 0}
        first[even([(-1, 0, -1), (1, 0, -1)])] = 1
        first[even([(1, -1, 0), (1, 0, 0), (-1, 1, 0)])] = 2
        for lot, index in first.items():
            for call, rest in ((walks.long_run, []), (walks.distance, [LOW, 0]), (walks.bound, [0]),
                               (walks.enough, [(1, 2)])):
                if index is None:
                    call(THREE, lot, *rest)
                else:
                    with self.assertRaises(NoLongRun) as caught:
                        call(THREE, lot, *rest)
                    self.assertEqual(caught.exception.value, index)
                    self.assertIs(type(caught.exception.value), int)

    def test_no_long_run_comes_last(self):
        self.refused(InvalidNumber, -1, walks.bound, [THREE, STILL, -1])
        self.refused(InvalidNumber, (0, 1), walks.enough, [THREE, STILL, (0, 1)])
        self.refused(InvalidNumber, None, walks.distance, [THREE, STILL, LOW, None])
        self.refused(InvalidRow, "row", walks.distance, [THREE, STILL, "row", 2])
        self.refused(NotFull, (0, 1, -1), walks.distance, [THREE, STILL, (0, 1, -1), 2])
        short = STILL[:2]
        self.refused(InvalidLot, short, walks.long_run, [THREE, short])

    def test_a_row_of_noughts_alone(self):
        for call, rest in ((walks.long_run, []), (walks.bound, [5])):
            with self.assertRaises(NoLongRun) as caught:
                call(LINE, (((0,), (1, 1)),), *rest)
            self.assertEqual(caught.exception.value, 0)


RING = (4, ((0, 1), (0, 3), (1, 2), (2, 3)))
WAY, ROUND = ((0, 1), (0, 3), (1, 2), (2, 3)), ((0, 1), (3, 0), (1, 2), (2, 3))


def no_webs():
    wrong = NO_TUPLES + [(), (2,), (2, (), ()), [2, ()], (2, []), (2, None), (2, "01"), (2, {}), (2, (0, 1))]
    wrong += [(n, ()) for n in NO_SIZES]
    pairs = [(1, 0), (0, 0), (1, 1), (0, 3), (2, 3), (-1, 0), (-1, 2), (3, 4), (0, FORTY), [0, 1], "01", None, 7]
    pairs += [(0,), (0, 1, 2), (), ((0, 1),), (0, True), (False, 1), (False, True), (0, 1.0), ("0", 1), (0, None)]
    wrong += [(3, (pair,)) for pair in pairs] + [(3, ((0, 1), pair)) for pair in pairs]
    wrong += [(3, ((0, 2), (0, 1))), (3, ((0, 1), (0, 1))), (3, ((1, 2), (0, 1))), (3, ((0, 1), (1, 2), (0, 2)))]
    return wrong + [(1, ((0, 0),)), (1, ((0, 1),)), (3, [(0, 1)]), (True, ()), (2, (((0, 1)), 0))]


def no_directions(web):
    right = web[1]
    wrong = NO_TUPLES + [(), list(right), right[:-1], right + right[-1:], right[::-1], right[1:] + right[:1]]
    arrows = [(0, 0), (1, 1), (0, 2), (2, 3), [0, 1], "01", None, True, 0, (0,), (0, 1, 0), (False, 1), (0, True)]
    return wrong + [(arrow,) + right[1:] for arrow in arrows + [(0.0, 1), ("0", 1), ((0,), 1), (0, None), ([0], 1)]]


def no_orders():
    """What is no order of three things."""
    wrong = NO_TUPLES + [(), [(0,), (1,), (2,)], (0, 1, 2), ((0,), (1,)), ((0,), (1,), (2,), (3,)), ((0, 1, 2, 3),)]
    wrong += [((0,), (2, 1)), ((1, 0), (2,)), ((2, 1, 0),), ((0,), (1,), (2,), ()), ((), (0, 1, 2)), ((0,), (0, 1, 2))]
    wrong += [((0,), (1,), (1,)), ((0, 0), (1, 2)), ((0, 1, 1, 2),), ((0,), [1], (2,)), ((0,), 1, (2,)), ("012",)]
    wrong += [((0,), (1, True), (2,)), ((0,), (True, 2)), ((False,), (1, 2)), ((0,), ("1",), (2,)), ((0,), (1, None))]
    return wrong + [((0, 1), (3,)), ((0, 1), (-1,)), ((1,), (2, 3)), ((0,), (1, 2.0)), ((0,), ((1,), 2)), (None,),
                    ((0,),)]


RING_ROWS = no_rows((4, (1, 2, 3, 4)))
SHELF_ROWS = no_rows((3, (1, 2, 3)))
WEBS = [InvalidWeb, InvalidNumber, InvalidRow, NeverComes, NotFull, InvalidPair, HasRound, InvalidNumber, InvalidIndex]
WEB = each(InvalidWeb, no_webs())
PAIRS = each(InvalidPair, no_directions(RING))
NUMBERS = each(InvalidNumber, NO_SIZES)
WEB_CALLS = [
    (webs.is_web, [RING], [[]]),
    (webs.book_of, [RING], [WEB]),
    (webs.arrows, [RING, (-1, -1, -1, -1)],
     [WEB, each(InvalidRow, RING_ROWS) + each(NeverComes, [(-1, 1, -1, -1), (0, 1, 0, 0), (1, 0, 1, 0)])
      + each(NotFull, [(0, 0, 0, 0), (-1, 0, -1, 1), (0, -1, -1, -1)])]),
    (webs.row_of, [RING, WAY], [WEB, PAIRS]),
    (webs.rounds, [RING, WAY], [WEB, PAIRS]),
    (webs.colourings, [RING, 3], [WEB, each(InvalidNumber, NO_COUNTS)]),
    (webs.shelf, [3], [NUMBERS]),
    (webs.to_front, [3, 0], [NUMBERS, each(InvalidIndex, NO_INTEGERS + [-1, 3, 4, -3, FORTY])]),
    (webs.order_of, [3, (1, 0, -1)],
     [NUMBERS, each(InvalidRow, SHELF_ROWS) + each(NeverComes, [(-1, 1, -1), (0, 0, 1), (1, 0, 1), (0, -1, 0)])]),
    (webs.row_of_order, [3, ((1,), (0, 2))], [NUMBERS, each(InvalidPair, no_orders())]),
]


class Webs(WrongInputs):
    def test_alone(self):
        for call, right, wrongs in WEB_CALLS:
            self.refused_alone(call, right, wrongs)

    def test_at_once(self):
        for call, right, wrongs in WEB_CALLS:
            self.refused_at_once(call, right, wrongs, WEBS)

    def test_is_web(self):
        for wrong in no_webs():
            self.assertIs(webs.is_web(wrong), False)

    def test_has_round(self):
        for told, found in ((ROUND, (0, 1, 2, 3)), (((1, 0), (0, 3), (2, 1), (3, 2)), (0, 3, 2, 1))):
            with self.assertRaises(HasRound) as caught:
                webs.row_of(RING, told)
            self.assertEqual(caught.exception.value, found)
            self.assertIs(type(caught.exception.value), tuple)
            self.assertEqual(webs.rounds(RING, told), found)

    def test_of_no_ties(self):
        self.refused(InvalidRow, (0,), webs.arrows, [(3, ()), (0,)])
        self.refused(InvalidPair, ((0, 1),), webs.row_of, [(3, ()), ((0, 1),)])
        self.refused(InvalidIndex, 1, webs.to_front, [1, 1])
        self.refused(InvalidRow, (0,), webs.order_of, [1, (0,)])
        self.refused(InvalidPair, (), webs.row_of_order, [1, ()])
        for wrong in ([], None, "", 0, [()]):
            self.refused(InvalidPair, wrong, webs.row_of, [(3, ()), wrong])
            self.refused(InvalidPair, wrong, webs.rounds, [(3, ()), wrong])

    def test_orders(self):
        for wrong in (((0,), (1,), (2,)), ((0, 1, 2),)):
            self.refused(InvalidPair, wrong, webs.row_of_order, [2, wrong])
            self.refused(InvalidPair, wrong, webs.row_of_order, [4, wrong])


FINE = ("less", (1, 0), 1)
POINT = ((0, 1), (1, 2))


def no_sayings():
    """What is no saying of two unknowns."""
    wrong = NO_TUPLES + [(), list(FINE), "less", ("less",), ("less", (1, 0)), ("less", 1), ("less", (1, 0), 1, 0)]
    wrong += [(word, (1, 0), 1) for word in ("", "Less", "less ", "equal", None, True, 1, b"less", ("less",), ["less"])]
    wrong += [("is", sides, 1) for sides in ((), (1,), (1, 0, 0), [1, 0], "10", None, 1, (1, True), (False, 0),
                                             (1, "0"), (None, 0), (1.0, 0), ((1,), 0), ((1, 1), (0, 1)), {})]
    wrong += [("more", (0, 0), wall) for wall in NO_INTEGERS + [(0, 1)]]
    wrong += [("not",), ("not", FINE, FINE), ("not", None), ("not", "less"), ("not", list(FINE)), ("not", ())]
    wrong += [("both",), ("both", FINE), ("both", FINE, FINE, FINE), ("either", FINE), ("either", FINE, FINE, FINE)]
    wrong += [(word, FINE, other) for word in ("both", "either") for other in (None, [], "is", (), FINE[:2], ("not",))]
    wrong += [(word, other, FINE) for word in ("both", "either") for other in (None, [], "is", (), FINE[1:], ("not",))]
    wrong += [["not", FINE], ["both", FINE, FINE], ("neither", FINE, FINE), ("and", FINE, FINE),
              ("not", ("less", (1,), 1))]
    wrong += [("both", FINE, ("is", (1, 0, 0), 0)), ("either", ("is", (1,), 0), ("is", (1,), 0)),
              ("both", (FINE, FINE))]
    wrong += [("neither",), ("",), ("and", FINE), ("Not", FINE), ("not ", FINE), ("", FINE, FINE), ("if", FINE, FINE)]
    deep = ("both", FINE, ("not", ("either", FINE, ("not", ("less", (1, 0), True)))))
    return wrong + [deep, ("not", [FINE]), (FINE,), (FINE, FINE), ("less", FINE, FINE), ("not", (1, 0), 1)]


UNKNOWNS = each(InvalidNumber, NO_SIZES)
SAYING = each(InvalidSaying, no_sayings())
SAYINGS = [InvalidNumber, InvalidSaying, InvalidPoint]
SAYING_CALLS = [
    (sayings.is_saying, [2, FINE], [UNKNOWNS, []]),
    (sayings.holds, [2, FINE, POINT], [UNKNOWNS, SAYING, each(InvalidPoint, no_points(2))]),
    (sayings.book_for, [2, FINE], [UNKNOWNS, SAYING]),
    (sayings.can_hold, [2, FINE], [UNKNOWNS, SAYING]),
    (sayings.always, [2, FINE], [UNKNOWNS, SAYING]),
    (sayings.parting, [2, FINE, ("not", FINE)], [UNKNOWNS, SAYING, SAYING]),
]


class Sayings(WrongInputs):
    def test_alone(self):
        for call, right, wrongs in SAYING_CALLS:
            self.refused_alone(call, right, wrongs)

    def test_at_once(self):
        for call, right, wrongs in SAYING_CALLS:
            self.refused_at_once(call, right, wrongs, SAYINGS)

    def test_is_saying(self):
        for wrong in no_sayings():
            self.assertIs(sayings.is_saying(2, wrong), False)

    def test_of_another_number_of_unknowns(self):
        for d in (1, 3):
            for call in (sayings.book_for, sayings.can_hold, sayings.always):
                self.refused(InvalidSaying, FINE, call, [d, FINE])
            self.refused(InvalidSaying, FINE, sayings.holds, [d, FINE, POINT])
            self.refused(InvalidSaying, FINE, sayings.parting, [d, FINE, None])


if __name__ == "__main__":
    unittest.main()

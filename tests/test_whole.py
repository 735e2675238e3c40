"""The whole document once more: one section's answers handed to the next, point by point."""

import unittest
from fractions import Fraction
from itertools import product

from sidebooks.alikes import alike_by, barred, unlike
from sidebooks.books import at_once, book, is_book, moved, rank, turned, without
from sidebooks.consoles import Console
from sidebooks.drawings import drawn
from sidebooks.flats import closure, flat_of, flats, free, sign_number
from sidebooks.papers import comes, forced, is_paper, settle, short_paper
from sidebooks.points import answer, between, fits, row_between, row_of
from sidebooks.polynomials import how_many, merged, polynomial, rows_by_free, value
from sidebooks.products import above, ahead, ahead_all, is_under, parts
from sidebooks.readers import read_book, read_number, read_point, read_row, read_saying, read_wish
from sidebooks.roads import farthest, how_many_roads, is_road, next_steps, roads, steps
from sidebooks.rows import first_row, full_rows, held_rows, is_held, noughts, rows, walls
from sidebooks.sayings import always, book_for, can_hold, holds, is_saying, parting
from sidebooks.texts import show_book, show_number, show_point, show_row, show_saying, show_wish
from sidebooks.walks import behind, bound, distance, enough, even_lot, is_lot, led, long_run, shares, table
from sidebooks.webs import arrows, book_of, colourings, is_web, order_of, rounds, row_of_order, shelf, to_front
from sidebooks.webs import row_of as row_of_direction
from tests.samples import CORNER, CROSS, SHELF, SPREAD, STAR, STRIPES, THREE

TEXTS = ["book 2\n1 0 : 0\n0 1 : 0\n1 1 : 1", "book 1\n2 : -1\n-3 : 6", "book 3\n1 2 -1 : 3\n0 1 4 : -2\n2 -1 1 : 0",
         "book 2\n1 0 : 1\n0 1 : 2\n1 1 : 3\n1 -1 : -1", "book 3", "book 2\n1 -1 : 0\n2 -2 : 1\n-1 1 : 3"]
BOOKS = [THREE, CROSS, STAR, STRIPES, CORNER, SHELF, (1, ()), (2, (((3, -1), 2),))]


def saying_of(told, row):
    """The saying that holds at just the points of a row."""
    words = {-1: "less", 0: "is", 1: "more"}
    found = ("is", (0,) * told[0], 0)
    for (sides, wall), given in zip(told[1], row):
        found = ("both", found, (words[given], sides, wall))
    return found


class FromTexts(unittest.TestCase):
    def test_from_a_text_to_points_and_back(self):
        for text in TEXTS:
            told = read_book(text)
            self.assertEqual(show_book(told), text)
            self.assertIs(is_book(told), True)
            for row in rows(told):
                verdict, point = settle(told, read_row(show_row(row)))
                self.assertEqual(verdict, "comes")
                again = read_point(show_point(point))
                self.assertEqual(row_of(told, again), row)
                self.assertEqual(tuple(answer(question, again) for question in told[1]), row)
                self.assertIs(fits(told, read_wish(show_wish(row)), again), True)

    def test_papers_through_texts(self):
        for told in (THREE, STRIPES, STAR, SHELF):
            for wish in barred(told):
                verdict, paper = settle(told, read_wish(show_wish(wish)))
                self.assertEqual(verdict, "never")
                self.assertIs(is_paper(told, wish, read_point(show_point(paper))), True)
                self.assertEqual(short_paper(told, wish), tuple(k for k, a in enumerate(wish) if a is not None))
                self.assertEqual(forced(told, wish), ((),) * len(wish))
                self.assertIsNone(first_row(told, wish))

    def test_a_console_as_the_functions(self):
        for text in TEXTS:
            console = Console()
            console.order("book one\n" + text)
            told = console.book("one")
            for row in full_rows(told):
                self.assertEqual(console.order("comes one " + show_row(row)), "yes")
            self.assertEqual(console.order("count one"),
                             show_number((how_many(told)[0], 1)) + " " + str(how_many(told)[1]))
            for k in range(len(told[1])):
                for made, call in (("without", without), ("turned", turned)):
                    console.order(made + " two one " + str(k))
                    self.assertEqual(console.book("two"), call(told, k))
                    self.assertEqual(read_book(console.order("show two")), call(told, k))


class Counted(unittest.TestCase):
    def test_counts_of_all_kinds_agree(self):
        for told in BOOKS + [SPREAD]:
            every = rows(told)
            full, held = how_many(told)
            self.assertEqual((full, held),
                             (len(full_rows(told)), len([row for row in held_rows(told) if 0 not in row])))
            self.assertEqual(rows_by_free(told), noughts(told))
            self.assertEqual(sum(noughts(told)), len(every))
            self.assertEqual(abs(value(polynomial(told), -1)), full)
            self.assertEqual(flats(told), sorted({flat_of(told, row) for row in every},
                                                 key=lambda flat: (-free(told, flat), flat)))
            self.assertEqual([row for row in every if is_held(told, row)], held_rows(told))
            gathered = [0] * (told[0] + 1)
            for flat in flats(told):
                gathered[told[0] - free(told, flat)] += sign_number(told, flat)
                self.assertEqual(closure(told, flat), flat)
            self.assertEqual(tuple(gathered), polynomial(told))

    def test_without_less_merged(self):
        for told in [told for told in BOOKS if told[0] > 1]:
            for k in range(len(told[1])):
                less = polynomial(merged(told, k))
                self.assertEqual(polynomial(told),
                                 tuple(a - b for a, b in zip(polynomial(without(told, k)), (0,) + less)))

    def test_one_flat_through_all_is_met_at_once(self):
        for told in BOOKS:
            every = tuple(range(len(told[1])))
            self.assertIs(at_once(told), closure(told, every) is not None)
            if at_once(told):
                self.assertEqual(free(told, every), told[0] - rank(told))

    def test_moved_books_have_the_same_rows(self):
        for told in BOOKS:
            other = moved(told, ((1, 2), (-5, 3), (7, 1), (2, 9))[:told[0]])
            self.assertIsNone(unlike(told, other))
            self.assertEqual(barred(told), barred(other))
            if len(told[1]) <= 5:
                self.assertEqual(alike_by(told, other), alike_by(told, told))
            self.assertEqual((rows(other), polynomial(other), farthest(other)),
                             (rows(told), polynomial(told), farthest(told)))


class PutTogether(unittest.TestCase):
    def test_on_the_way_between_points(self):
        for told in (THREE, STAR, STRIPES, CORNER):
            some = rows(told)[::3]
            for one, other in product(some, some):
                start, end = settle(told, one)[1], settle(told, other)[1]
                row = row_between(told, start, end)
                self.assertEqual(row, ahead(told, one, other))
                self.assertEqual(row, row_of(told, between(start, end, (1, 10 ** 9))))
                self.assertIn(row, above(told, one))
                self.assertIs(is_under(told, one, row), True)
                self.assertEqual(parts(told, one, row), ())

    def test_roads_and_walls(self):
        for told in (THREE, STAR, STRIPES, SHELF):
            for one in full_rows(told)[::5]:
                for other in full_rows(told)[::4]:
                    self.assertEqual(steps(told, one, other), len(parts(told, one, other)))
                    every = roads(told, one, other)
                    self.assertEqual(how_many_roads(told, one, other), len(every))
                    self.assertLessEqual(set(next_steps(told, one, other)), set(walls(told, one)))
                    for road in every[:4]:
                        self.assertIs(is_road(told, one, other, road), True)


class Walked(unittest.TestCase):
    def test_lots_of_rows_that_are_told(self):
        for told in (THREE, CROSS, STAR, STRIPES, CORNER):
            lot = even_lot(told, held_rows(told)[:3] + full_rows(told)[-2:])
            self.assertIs(is_lot(told, lot), True)
            self.assertEqual([flat for flat, _, _ in shares(told, lot)], flats(told))
            row = full_rows(told)[0]
            way = led(told, lot, row, tuple((k, 7) for k in range(1, 7)))
            for here, onward in zip((row,) + way, way):
                self.assertIn(onward, [ahead(told, drawn_row, here) for drawn_row, _ in lot])
                place = full_rows(told).index(here), full_rows(told).index(onward)
                self.assertGreater(table(told, lot)[place[0]][place[1]][0], 0)
            n = enough(told, lot, (1, 10))
            self.assertLessEqual(Fraction(*distance(told, lot, row, n)), Fraction(*bound(told, lot, n)))
            apart = sum(abs(Fraction(*a) - Fraction(*b))
                        for a, b in zip(behind(told, lot, row, n), long_run(told, lot)))
            self.assertEqual(apart / 2, Fraction(*distance(told, lot, row, n)))
            self.assertEqual(read_number(show_number(distance(told, lot, row, 1))), distance(told, lot, row, 1))

    def test_a_shelf_that_is_put_in_order(self):
        for n in (2, 3, 4):
            told = book_of(shelf(n))
            lot = even_lot(told, [to_front(n, i) for i in range(n)])
            self.assertEqual(long_run(told, lot), ((1, len(full_rows(told))),) * len(full_rows(told)))
            start = row_of_order(n, tuple((k,) for k in range(n)))
            fronts = [order_of(n, row) for row in led(told, lot, start, ((1, 2), (0, 1), (4, 5), (1, 3), (99, 100)))]
            for order in fronts:
                self.assertEqual(len(order), n)
            moved_to = [order_of(n, row)[0][0] for row, _ in lot]
            self.assertEqual(sorted(moved_to), list(range(n)))
            self.assertLessEqual({order[0][0] for order in fronts}, set(moved_to))
            self.assertEqual(ahead_all(told, [to_front(n, i) for i in range(n)]), start)

    def test_webs(self):
        for web in (shelf(4), (4, ((0, 1), (1, 2), (2, 3))), (4, ((0, 1), (0, 3), (1, 2), (2, 3))), (3, ()), (1, ())):
            self.assertIs(is_web(web), True)
            told = book_of(web)
            self.assertEqual(how_many(told), (len(full_rows(told)), 0))
            self.assertEqual(colourings(web, 5), value(polynomial(told), 5))
            without_round = [way for way in product(*[((i, j), (j, i)) for i, j in web[1]]) if rounds(web, way) is None]
            self.assertEqual(sorted(row_of_direction(web, way) for way in without_round), full_rows(told))
            self.assertEqual([arrows(web, row_of_direction(web, way)) for way in without_round], without_round)


class Said(unittest.TestCase):
    def test_a_saying_for_each_row(self):
        for told in (THREE, CROSS, STRIPES, (1, (((2,), 1), ((3,), 5)))):
            for row in product((-1, 0, 1), repeat=len(told[1])):
                saying = saying_of(told, row)
                self.assertIs(is_saying(told[0], saying), True)
                self.assertEqual(read_saying(show_saying(saying)), saying)
                self.assertEqual(book_for(told[0], saying), book(*told))
                point = can_hold(told[0], saying)
                self.assertIs(point is not None, comes(told, row))
                if point is not None:
                    self.assertEqual(row_of(told, point), row)
                    self.assertIs(holds(told[0], saying, point), True)

    def test_all_rows_together_always_hold(self):
        for told in (THREE, STAR, STRIPES):
            whole = ("is", (0,) * told[0], 1)
            for row in rows(told):
                whole = ("either", whole, saying_of(told, row))
            self.assertIsNone(always(told[0], whole))
            self.assertIsNone(parting(told[0], whole, ("not", ("less", (0,) * told[0], 0))))
            lacking = ("both", whole, ("not", saying_of(told, rows(told)[2])))
            self.assertEqual(row_of(told, always(told[0], lacking)), rows(told)[2])
            self.assertEqual(row_of(told, parting(told[0], lacking, whole)), rows(told)[2])

    def test_drawn_letters_are_full_rows(self):
        for told in (THREE, STAR, STRIPES, CROSS):
            picture = drawn(told, -4, -4, 20, 20, 2)
            for j, line in enumerate(picture[::-1]):
                for i, sign in enumerate(line):
                    a, b = Fraction(i - 8, 2), Fraction(j - 8, 2)
                    point = ((a.numerator, a.denominator), (b.numerator, b.denominator))
                    row = row_of(told, point)
                    if sign == ".":
                        self.assertIn(0, row)
                    else:
                        self.assertEqual(full_rows(told)["abcdefghijklmnopqrstuv".index(sign)], row)
                        self.assertIs(holds(2, saying_of(told, row), point), True)


if __name__ == "__main__":
    unittest.main()

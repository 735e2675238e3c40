"""The examples of the document, word for word, and those of the README."""

import doctest
import unittest
from pathlib import Path

EXAMPLES = '''
>>> from sidebooks.books import at_once, book, is_book, moved, rank, turned, without
>>> three = (2, (((1, 0), 0), ((0, 1), 0), ((1, 1), 1)))
>>> [is_book(three), book(1, [((2,), 4), ((-1,), -2)]), without(three, 1), turned(three, 2)[1][2], at_once(three), rank(three)]
[True, (1, (((1,), 2),)), (2, (((1, 0), 0), ((1, 1), 1))), ((-1, -1), -1), False, 2]
>>> moved(three, ((1, 2), (0, 1)))
(2, (((2, 0), 1), ((0, 1), 0), ((2, 2), 3)))

>>> from sidebooks.points import between, fits, row_between, row_of
>>> [row_of(three, ((0, 1), (1, 2))), fits(three, (None, 1, -1), ((0, 1), (1, 2))), row_between(three, ((0, 1), (1, 1)), ((1, 1), (1, 1)))]
[(0, 1, -1), True, (1, 1, 1)]

>>> from sidebooks.papers import comes, forced, is_paper, settle, short_paper
>>> [comes(three, (-1, -1, 1)), is_paper(three, (-1, -1, 1), ((-1, 1), (-1, 1), (1, 1))), short_paper(three, (-1, -1, 1))]
[False, True, (0, 1, 2)]
>>> [settle(three, (-1, -1, 1))[0], forced(three, (-1, None, 1)), forced(three, (0, 0, None))]
['never', ((-1,), (1,), (1,)), ((0,), (0,), (-1,))]

>>> from sidebooks.rows import first_row, full_rows, held_rows, is_held, noughts, walls
>>> [len(full_rows(three)), noughts(three), held_rows(three)[:2], is_held(three, (1, 1, -1)), walls(three, (1, 1, -1)), first_row(three, (0, None, None))]
[7, (3, 9, 7), [(0, 0, -1), (0, 1, -1)], True, (0, 1, 2), (0, -1, -1)]

>>> from sidebooks.products import above, ahead, is_under, parts
>>> [ahead(three, (0, 1, -1), (1, -1, -1)), parts(three, (1, 1, 1), (-1, 1, -1)), is_under(three, (0, 0, -1), (1, 1, -1)), len(above(three, (0, 0, -1)))]
[(1, 1, -1), (0, 2), True, 9]

>>> from sidebooks.alikes import alike_by, barred, unlike
>>> [barred(three), unlike(three, turned(three, 0)), alike_by(three, without((2, three[1] + (((1, -1), 0),)), 3))]
[[(-1, -1, 1)], (-1, -1, 0), ((0, 1, 2), (1, 1, 1))]

>>> from sidebooks.flats import closure, flats, sign_number
>>> two = without(three, 2)
>>> [flats(three), closure(three, (0, 1, 2)), [sign_number(two, flat) for flat in flats(two)]]
[[(), (0,), (1,), (2,), (0, 1), (0, 2), (1, 2)], None, [1, -1, -1, 1]]

>>> from sidebooks.polynomials import how_many, merged, polynomial, rows_by_free, value
>>> [polynomial(three), value(polynomial(three), -1), how_many(three), merged(three, 2), rows_by_free(three)]
[(1, -3, 3), 7, (7, 1), (1, (((1,), 0), ((-1,), -1))), (3, 9, 7)]

>>> from sidebooks.roads import farthest, is_road, roads
>>> [roads(three, (-1, -1, -1), (1, 1, 1)), is_road(three, (1, 1, -1), (1, 1, 1), (0, 2, 0)), farthest(three)]
[[(0, 1, 2), (0, 2, 1), (1, 0, 2), (1, 2, 0)], True, (3, (-1, -1, -1), (1, 1, 1))]

>>> from sidebooks.walks import bound, even_lot, led, long_run, shares, table
>>> line = (1, (((1,), 0),))
>>> lot = (((-1,), (1, 3)), ((0,), (1, 3)), ((1,), (1, 3)))
>>> [shares(line, lot), table(line, lot), long_run(line, lot), bound(line, lot, 2), led(line, lot, (1,), ((0, 1), (1, 2)))]
[[((), (1, 1), 1), ((0,), (1, 3), 1)], (((2, 3), (1, 3)), ((1, 3), (2, 3))), ((1, 2), (1, 2)), (1, 9), ((-1,), (-1,))]

>>> from sidebooks.webs import arrows, book_of, colourings, order_of, row_of_order, shelf, to_front
>>> [shelf(3), colourings(shelf(3), 4), to_front(3, 1), order_of(3, (1, 0, -1)), row_of_order(3, ((1,), (0, 2))), arrows(shelf(2), (1,))]
[(3, ((0, 1), (0, 2), (1, 2))), 24, (1, 0, -1), ((1,), (0, 2)), (1, 0, -1), ((1, 0),)]

>>> from sidebooks.sayings import always, can_hold, holds, parting
>>> left = ("less", (1, 0), 1)
>>> [holds(2, left, ((0, 1), (5, 1))), can_hold(2, ("both", left, ("more", (1, 0), 1))), parting(2, left, ("less", (2, 0), 2))]
[True, None, None]

>>> from sidebooks.drawings import drawn
>>> drawn(three, -1, -1, 4, 4, 1)
['..gg', 'b.gg', '....', 'a.d.']

>>> from sidebooks.texts import show_book, show_row, show_saying, show_wish
>>> [show_book(line), show_row((1, 0, -1)), show_wish((None, 1)), show_saying(("not", left))]
['book 1\\n1 : 0', '+0-', '?+', '(not (less [1 0] 1))']
'''


class Examples(unittest.TestCase):
    def run_all(self, text, name, many):
        told = doctest.DocTestParser().get_doctest(text, {}, name, None, 0)
        lines = []
        result = doctest.DocTestRunner(verbose=False).run(told, out=lines.append)
        self.assertEqual((result.failed, result.attempted), (0, many), "".join(lines))

    def test_the_document(self):
        self.run_all(EXAMPLES, "DOC.md", 35)

    def test_the_readme(self):
        readme = Path(__file__).resolve().parent.parent / "README.md"
        text = readme.read_text().replace("```", "")
        self.run_all(text, "README.md", 49)


if __name__ == "__main__":
    unittest.main()

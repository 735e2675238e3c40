"""Point [11], "walks" of [14], section sidebooks/walks.py: what is right."""

import unittest
from fractions import Fraction
from itertools import permutations

from sidebooks.flats import flats, sign_number
from sidebooks.products import ahead, ahead_all
from sidebooks.rows import full_rows, rows
from sidebooks.walks import behind, bound, distance, enough, even_lot, is_lot, led, long_run, shares, table
from tests.lots import (LINE, RUNS, THIRDS, WALKED, WALKS, even, idle, lots_of, one_step, put, share_at, stepped,
                        sum_of_powers, to_fronts, uneven)
from tests.oracle import all_flats, all_full, all_rows, all_sign_numbers
from tests.samples import CORNER, CROSS, SHELF, STAR, STRIPES, THREE, WEB_BOOKS, number, plain

LOW = ((1, 2), (1, 3), (1, 7))
FARS = [(1, 1), (7, 2), (999, 1), (1, 2), (1, 3), (2, 7), (1, 9), (1, 27), (1, 999), (998, 999), (1, 10 ** 12)]


def fractions(numbers):
    return [Fraction(*x) for x in numbers]


def some_starts(book, many=4):
    found = all_full(book)
    return found[::max(1, len(found) // many)]


def times(one, other):
    return [[sum(a * b for a, b in zip(row, column)) for column in zip(*other)] for row in one]


def from_roots(roots):
    """The numbers of the product of t less each root, highest power first."""
    found = [Fraction(1)]
    for root in roots:
        found = [a - root * b for a, b in zip(found + [0], [0] + found)]
    return found


def characteristic(steps):
    """The numbers of the determinant of t times one less a table, highest power first, by traces."""
    size = len(steps)
    gathered = [[Fraction(0)] * size for _ in range(size)]
    found = [Fraction(1)]
    for k in range(1, size + 1):
        gathered = [[x + (found[-1] if i == j else 0) for j, x in enumerate(row)] for i, row in enumerate(gathered)]
        gathered = times(steps, gathered)
        found.append(-sum(gathered[i][i] for i in range(size)) / k)
    return found


class Lots(unittest.TestCase):
    def test_is_lot(self):
        for book, lot in WALKS:
            self.assertIs(is_lot(book, lot), True)

    def test_of_no_questions(self):
        self.assertIs(is_lot((2, ()), (((), (1, 1)),)), True)
        self.assertIs(is_lot((2, ()), ()), False)
        self.assertEqual(even_lot((2, ()), [()]), (((), (1, 1)),))

    def test_chances_of_any_size(self):
        self.assertIs(is_lot(LINE, (((-1,), (998, 999)), ((1,), (1, 999)))), True)
        self.assertIs(is_lot(LINE, (((-1,), (999, 1000)), ((1,), (1, 999)))), False)
        self.assertIs(is_lot(LINE, (((-1,), (3, 2)),)), False)
        self.assertIs(is_lot(LINE, (((-1,), (3, 2)), ((1,), (-1, 2)))), False)

    def test_even_lot(self):
        for book in WALKED:
            for lot in lots_of(book):
                some = [row for row, _ in lot]
                for told in (some, tuple(some), some[::-1], some[1:] + some[:1]):
                    found = even_lot(book, told)
                    self.assertEqual(found, even(some))
                    self.assertTrue(plain(found))
                    self.assertIs(is_lot(book, found), True)

    def test_even_lot_of_all_rows(self):
        for book in (LINE, THREE, CROSS, WEB_BOOKS[2]):
            self.assertEqual(even_lot(book, rows(book)), even(all_rows(book)))


class Shares(unittest.TestCase):
    def test_each_flat_with_its_share(self):
        for book, lot in WALKS:
            found = shares(book, lot)
            self.assertIs(type(found), list)
            signs = all_sign_numbers(book)
            expected = [(flat, number(share_at(lot, flat)), abs(signs[flat])) for flat in all_flats(book)]
            self.assertEqual(found, expected)
            self.assertTrue(all(plain(item) for item in found))
            self.assertEqual([flat for flat, _, _ in found], flats(book))
            self.assertEqual([many for _, _, many in found], [abs(sign_number(book, flat)) for flat in flats(book)])

    def test_of_all_points_it_is_1(self):
        for book, lot in WALKS:
            self.assertEqual(shares(book, lot)[0], ((), (1, 1), 1))

    def test_without_a_row(self):
        full = even([(-1, -1, -1), (1, 1, 1)])
        self.assertEqual([share for _, share, _ in shares(THREE, full)], [(1, 1)] + [(0, 1)] * 6)

    def test_as_many_as_full_rows(self):
        for book, lot in WALKS:
            self.assertEqual(sum(many for _, _, many in shares(book, lot)), len(full_rows(book)))

    def test_the_trace_of_the_table(self):
        for book, lot in WALKS:
            steps = table(book, lot)
            trace = sum(Fraction(*steps[k][k]) for k in range(len(steps)))
            self.assertEqual(trace, sum(Fraction(*share) * many for _, share, many in shares(book, lot)))

    def test_the_eigenvalues_of_the_table(self):
        for book, lot in WALKS:
            if len(all_full(book)) <= 8:
                roots = [Fraction(*share) for _, share, many in shares(book, lot) for _ in range(many)]
                self.assertEqual(characteristic([fractions(row) for row in table(book, lot)]), from_roots(roots))

    def test_the_eigenvalues_of_a_shelf(self):
        lot = uneven(to_fronts(4))
        roots = [Fraction(*share) for _, share, many in shares(SHELF, lot) for _ in range(many)]
        self.assertEqual(characteristic(one_step(SHELF, lot)), from_roots(roots))


class Tables(unittest.TestCase):
    def test_by_fractions(self):
        for book, lot in WALKS:
            found = table(book, lot)
            self.assertTrue(plain(found))
            self.assertEqual(found, tuple(tuple(number(x) for x in row) for row in one_step(book, lot)))

    def test_rows_add_up_to_1(self):
        for book, lot in WALKS:
            for row in table(book, lot):
                self.assertEqual(sum(fractions(row)), 1)
                self.assertEqual(len(row), len(all_full(book)))

    def test_of_no_questions(self):
        self.assertEqual(table((3, ()), (((), (1, 1)),)), (((1, 1),),))

    def test_a_row_of_noughts_leaves_all(self):
        self.assertEqual(table(CROSS, (((0, 0), (1, 1)),)),
                         tuple(tuple((int(k == to), 1) for to in range(4)) for k in range(4)))


class Behind(unittest.TestCase):
    def test_the_table_put_behind_so_often(self):
        for book, lot in WALKS:
            steps = one_step(book, lot)
            for row in some_starts(book):
                chances = [Fraction(int(other == row)) for other in all_full(book)]
                for n in range(6):
                    found = behind(book, lot, row, n)
                    self.assertEqual(found, tuple(number(x) for x in chances))
                    self.assertTrue(plain(found))
                    chances = stepped(chances, steps)

    def test_no_step(self):
        for book, lot in WALKS:
            for row in some_starts(book):
                expected = tuple((int(other == row), 1) for other in all_full(book))
                self.assertEqual(behind(book, lot, row, 0), expected)

    def test_twelve_steps(self):
        for book, lot in WALKS[::5] + [(SHELF, uneven(to_fronts(4)))]:
            steps = [fractions(row) for row in table(book, lot)]
            row = all_full(book)[-1]
            chances = [Fraction(int(other == row)) for other in all_full(book)]
            for _ in range(12):
                chances = stepped(chances, steps)
            self.assertEqual(behind(book, lot, row, 12), tuple(number(x) for x in chances))

    def test_one_step_is_a_row_of_the_table(self):
        for book, lot in WALKS:
            for place, row in enumerate(all_full(book)):
                self.assertEqual(behind(book, lot, row, 1), table(book, lot)[place])


def drawn_once(book, lot):
    """The long run by all sequences of the rows, each drawn once, by chances of those not yet drawn."""
    found = {row: Fraction(0) for row in all_full(book)}
    for sequence in permutations(lot):
        left, chance, gathered = Fraction(1), Fraction(1), (0,) * len(book[1])
        for row, weight in sequence:
            chance *= Fraction(*weight) / left
            left -= Fraction(*weight)
            gathered = put(gathered, row)
        found[gathered] += chance
    return tuple(number(found[row]) for row in all_full(book))


class LongRun(unittest.TestCase):
    def test_it_stays_under_one_step(self):
        for book, lot in RUNS:
            found = long_run(book, lot)
            self.assertTrue(plain(found))
            chances = fractions(found)
            self.assertEqual(sum(chances), 1)
            self.assertEqual(stepped(chances, one_step(book, lot)), chances)

    def test_by_all_sequences(self):
        for book, lot in RUNS:
            if len(lot) <= 6:
                self.assertEqual(long_run(book, lot), drawn_once(book, lot))

    def test_all_walks_come_to_it(self):
        for book, lot in RUNS[::4]:
            goal = fractions(long_run(book, lot))
            steps = one_step(book, lot)
            for _ in range(4):
                steps = times(steps, steps)
            slow = max((share_at(lot, [k]) for k in range(len(book[1]))), default=Fraction(0))
            for chances in steps:
                apart = sum(abs(a - b) for a, b in zip(chances, goal)) / 2
                self.assertLessEqual(apart, len(book[1]) * slow ** 16)

    def test_told(self):
        self.assertEqual(long_run(LINE, THIRDS), ((1, 2), (1, 2)))
        self.assertEqual(long_run((1, ()), (((), (1, 1)),)), ((1, 1),))
        self.assertEqual(long_run(SHELF, even(to_fronts(4))), ((1, 24),) * 24)
        self.assertEqual(long_run(CROSS, even([(-1, 0), (0, 1)])), ((0, 1), (1, 1), (0, 1), (0, 1)))
        self.assertEqual(long_run(CROSS, (((-1, -1), (1, 4)), ((1, 1), (3, 4)))), ((1, 4), (0, 1), (0, 1), (3, 4)))

    def test_a_row_is_enough(self):
        for book in WALKED:
            for row in some_starts(book):
                lot = ((row, (1, 1)),)
                self.assertEqual(long_run(book, lot), behind(book, lot, all_full(book)[0], 1))

    def test_fronts_of_unlike_chances(self):
        lot = tuple(zip(sorted(to_fronts(3)), LOW[:2] + ((1, 6),)))
        book = WEB_BOOKS[2]
        self.assertEqual(long_run(book, lot), drawn_once(book, lot))
        self.assertEqual(len({x for x in long_run(book, lot)}), 6)


class Distance(unittest.TestCase):
    def test_half_of_the_differences(self):
        for book, lot in RUNS:
            goal = fractions(long_run(book, lot))
            for row in some_starts(book, 3):
                for n in (0, 1, 2, 5):
                    here = fractions(behind(book, lot, row, n))
                    found = distance(book, lot, row, n)
                    self.assertEqual(found, number(sum(abs(a - b) for a, b in zip(here, goal)) / 2))
                    self.assertTrue(plain(found))

    def test_never_above_the_bound(self):
        for book, lot in RUNS:
            for row in some_starts(book, 6):
                for n in range(8):
                    self.assertLessEqual(Fraction(*distance(book, lot, row, n)), Fraction(*bound(book, lot, n)))

    def test_it_never_grows(self):
        for book, lot in RUNS[::3]:
            found = [Fraction(*distance(book, lot, all_full(book)[0], n)) for n in range(13)]
            self.assertEqual(found, sorted(found, reverse=True))

    def test_told(self):
        self.assertEqual([distance(LINE, THIRDS, (1,), n) for n in range(3)], [(1, 2), (1, 6), (1, 18)])
        self.assertEqual(distance((2, ()), (((), (1, 1)),), (), 0), (0, 1))


class Bounds(unittest.TestCase):
    def test_sums_of_powers(self):
        for book, lot in RUNS:
            for n in range(13):
                found = bound(book, lot, n)
                self.assertEqual(found, number(sum_of_powers(book, lot, n)))
                self.assertTrue(plain(found))

    def test_to_the_power_0(self):
        for book, lot in RUNS:
            self.assertEqual(bound(book, lot, 0), (len(book[1]), 1))
        full = even([(-1, -1, -1), (1, 1, 1)])
        self.assertEqual([bound(THREE, full, n) for n in range(3)], [(3, 1), (0, 1), (0, 1)])

    def test_enough_is_the_least(self):
        for book, lot in RUNS:
            for far in FARS:
                n = enough(book, lot, far)
                self.assertIs(type(n), int)
                self.assertLessEqual(Fraction(*bound(book, lot, n)), Fraction(*far))
                if n > 0:
                    self.assertGreater(Fraction(*bound(book, lot, n - 1)), Fraction(*far))

    def test_enough_told(self):
        self.assertEqual([enough(LINE, THIRDS, (1, 3 ** n)) for n in range(8)], list(range(8)))
        self.assertEqual([enough(LINE, THIRDS, (1, 3 ** n + 1)) for n in range(1, 8)], list(range(2, 9)))
        self.assertEqual(enough(LINE, THIRDS, (7, 2)), 0)
        self.assertEqual(enough((1, ()), (((), (1, 1)),), (1, 999)), 0)
        full = even([(-1, -1, -1), (1, 1, 1)])
        self.assertEqual([enough(THREE, full, far) for far in ((3, 1), (299, 100), (1, 999))], [0, 1, 1])

    def test_enough_of_a_slow_walk(self):
        slow = (((-1,), (1, 999)), ((0,), (998, 999)))
        n = enough(LINE, slow, (1, 999))
        self.assertGreater(n, 6000)
        self.assertTrue(999 * 998 ** n <= 999 ** n < 999 * 999 * 998 ** (n - 1))


class Led(unittest.TestCase):
    tapes = [(), ((0, 1),), ((998, 999),), ((1, 2), (0, 1), (1, 3)), ((1, 3), (2, 3), (1, 7), (6, 7), (5, 28), (1, 2))]

    def test_one_behind_each_number(self):
        for book, lot in WALKS:
            for row in some_starts(book, 3):
                for tape in self.tapes:
                    expected, here = [], row
                    for x in tape:
                        sums = [sum(Fraction(*chance) for _, chance in lot[:k + 1]) for k in range(len(lot))]
                        drawn = [lot[k][0] for k in range(len(lot)) if sums[k] > Fraction(*x)][0]
                        here = put(drawn, here)
                        expected.append(here)
                    found = led(book, lot, row, tape)
                    self.assertEqual(found, tuple(expected))
                    self.assertTrue(plain(found))
                    self.assertLessEqual(set(found), set(full_rows(book)))

    def test_just_at_a_sum(self):
        lot = (((-1, 0), (1, 4)), ((0, -1), (1, 4)), ((0, 1), (1, 2)))
        self.assertEqual(led(CROSS, lot, (1, 1), ((1, 4),)), ((1, -1),))
        self.assertEqual(led(CROSS, lot, (1, 1), ((1, 2),)), ((1, 1),))
        self.assertEqual(led(CROSS, lot, (1, 1), ((249, 997), (498, 997), (999, 1000))), ((-1, 1), (-1, -1), (-1, 1)))

    def test_the_last_drawn_is_ahead(self):
        for book, lot in ((STAR, lots_of(STAR)[4]), (CORNER, lots_of(CORNER)[5]), (STRIPES, lots_of(STRIPES)[4])):
            start = all_full(book)[0]
            tape = ((0, 1), (1, 3), (4, 5), (9, 10))
            drawn = [[row for k, (row, _) in enumerate(lot)
                      if sum(Fraction(*c) for _, c in lot[:k + 1]) > Fraction(*x)][0] for x in tape]
            self.assertEqual(led(book, lot, start, tape)[-1], ahead_all(book, drawn[::-1] + [start]))
            self.assertEqual(led(book, lot, start, tape[:1]), (ahead(book, drawn[0], start),))

    def test_of_no_questions(self):
        self.assertEqual(led((2, ()), (((), (1, 1)),), (), ((1, 2), (0, 1))), ((), ()))


class Idle(unittest.TestCase):
    def test_without_a_long_run_the_rest_is_told(self):
        for book, lot in WALKS:
            if idle(book, lot):
                row = all_full(book)[0]
                table(book, lot), shares(book, lot), behind(book, lot, row, 3), led(book, lot, row, ((1, 2),))


if __name__ == "__main__":
    unittest.main()

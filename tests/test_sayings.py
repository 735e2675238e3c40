"""Point [13], "sayings" of [14], section sidebooks/sayings.py: what is right."""

import unittest
from fractions import Fraction
from itertools import product
from random import Random

from sidebooks.books import book, is_book
from sidebooks.sayings import always, book_for, can_hold, holds, is_saying, parting
from tests.oracle import sample_points
from tests.samples import FORTY, number, plain, points_of

WORDS = ("less", "is", "more")
X, Y = (1, 0), (0, 1)
LEFT, ON, RIGHT = [(word, (1,), 2) for word in WORDS]


def parts_of(saying):
    """All sayings in one without parts of their own, from the left."""
    if saying[0] in WORDS:
        return [saying]
    return [leaf for part in saying[1:] for leaf in parts_of(part)]


def true_at(saying, point):
    if saying[0] in WORDS:
        found = sum(side * x for side, x in zip(saying[1], point)) - saying[2]
        return {"less": found < 0, "is": found == 0, "more": found > 0}[saying[0]]
    some = [true_at(part, point) for part in saying[1:]]
    return {"not": not some[0], "both": all(some), "either": any(some)}[saying[0]]


def tried_points(d, *sayings):
    """Points, at least one for each row of all questions in some sayings."""
    leaves = [leaf for saying in sayings for leaf in parts_of(saying)]
    return sample_points(d, sorted({(sides, wall) for _, sides, wall in leaves if any(sides)}))


def as_fractions(point):
    return [Fraction(*x) for x in point]


def random_saying(chance, leaves, depth):
    kind = chance.choice(("leaf", "not", "both", "either", "both", "either")) if depth > 1 else "leaf"
    if kind == "leaf":
        return chance.choice(leaves)
    many = 1 if kind == "not" else 2
    return (kind,) + tuple(random_saying(chance, leaves, depth - 1) for _ in range(many))


def random_leaves(chance, d, many):
    found = []
    for _ in range(many):
        sides = tuple(chance.randint(-3, 3) for _ in range(d))
        found += [(word, sides, chance.randint(-3, 3)) for word in WORDS]
    return found


def random_sayings(many):
    """The same ones in each run: (d, some leaves, saying, other saying of the same leaves)."""
    found = []
    for seed in range(many):
        chance = Random(seed)
        d = chance.randint(1, 3)
        leaves = random_leaves(chance, d, chance.randint(1, 5 if d < 3 else 3))
        found.append((d, random_saying(chance, leaves, 5), random_saying(chance, leaves, chance.randint(1, 5))))
    return found


SAYINGS = random_sayings(160)


class Sayings(unittest.TestCase):
    def test_is_saying(self):
        for d, one, other in SAYINGS:
            self.assertIs(is_saying(d, one), True)
            self.assertIs(is_saying(d, other), True)
            self.assertIs(is_saying(d + 1, one), False)

    def test_sides_all_0(self):
        for d in (1, 2, 3):
            for word in WORDS:
                self.assertIs(is_saying(d, (word, (0,) * d, -4)), True)

    def test_holds(self):
        for d, one, _ in SAYINGS:
            for point in points_of(d, 12):
                found = holds(d, one, point)
                self.assertIs(found, true_at(one, as_fractions(point)))

    def test_holds_told(self):
        third = ((1, 3),)
        self.assertEqual([holds(1, (word, (3,), 1), third) for word in WORDS], [False, True, False])
        self.assertEqual([holds(1, (word, (-3,), 1), third) for word in WORDS], [True, False, False])
        self.assertEqual([holds(1, (word, (0,), -1), third) for word in WORDS], [False, False, True])
        self.assertEqual([holds(1, (word, (0,), 0), third) for word in WORDS], [False, True, False])
        self.assertEqual([holds(1, (word, (0,), FORTY), third) for word in WORDS], [True, False, False])
        self.assertIs(holds(1, ("not", ("not", LEFT)), third), True)


class Books(unittest.TestCase):
    def test_of_its_questions(self):
        for d, one, other in SAYINGS:
            for saying in (one, other):
                found = book_for(d, saying)
                questions = [(sides, wall) for _, sides, wall in parts_of(saying) if any(sides)]
                self.assertEqual(found, book(d, questions))
                self.assertIs(is_book(found), True)
                self.assertTrue(plain(found))

    def test_told(self):
        saying = ("either", ("both", ("is", (2, 4), 6), ("more", (0, 0), 1)), ("not", ("less", (-1, -2), -3)))
        self.assertEqual(book_for(2, saying), (2, (((1, 2), 3),)))
        self.assertEqual(book_for(2, ("both", ("less", Y, 2), ("more", (-3, 0), 6))), (2, ((Y, 2), ((-1, 0), 2))))
        self.assertEqual(book_for(3, ("is", (0, 0, 0), 0)), (3, ()))


class Judged(unittest.TestCase):
    def judge(self, d, saying, point, wanted, points):
        """A point at which the saying is as wanted is told exactly if there is one."""
        some = any(true_at(saying, x) is wanted for x in points)
        self.assertIs(point is not None, some, saying)
        if some:
            self.assertEqual(len(point), d)
            self.assertTrue(plain(point))
            self.assertEqual(point, tuple(number(x) for x in as_fractions(point)))
            self.assertIs(true_at(saying, as_fractions(point)), wanted, (saying, point))
            self.assertIs(holds(d, saying, point), wanted)

    def judge_all(self, d, one, other):
        points = tried_points(d, one)
        self.judge(d, one, can_hold(d, one), True, points)
        self.judge(d, one, always(d, one), False, points)
        apart = ("either", ("both", one, ("not", other)), ("both", other, ("not", one)))
        self.judge(d, apart, parting(d, one, other), True, tried_points(d, one, other))

    def test_sayings_of_all_kinds(self):
        for d, one, other in SAYINGS:
            self.judge_all(d, one, other)

    def test_all_small_ones_of_one_unknown(self):
        leaves = [(word, (side,), wall) for word in WORDS for side in (-1, 0, 2) for wall in (0, 1)]
        small = leaves + [("not", leaf) for leaf in leaves]
        small += [(word, one, other) for word in ("both", "either")
                  for one, other in product(leaves[::2], leaves[1::2])]
        for one in small:
            self.judge_all(1, one, ("not", ("not", one)))
            self.assertIsNone(parting(1, one, ("not", ("not", one))))
        for one, other in product(small[::5], small[::7]):
            self.judge_all(1, one, other)

    def test_six_unlike_questions(self):
        sides = ((1, 2, -1), (0, 1, 4), (2, -1, 1), (1, 1, 1), (3, 0, -2), (1, -4, 2))
        leaves = [(word, told, wall) for told, wall in zip(sides, (3, -2, 0, 1, 2, -3)) for word in WORDS]
        for seed in range(6):
            one, other = [random_saying(Random(seed + k), leaves, 5) for k in (0, 50)]
            points = tried_points(3, *leaves)
            self.judge(3, one, can_hold(3, one), True, points)
            self.judge(3, one, always(3, one), False, points)
            apart = ("either", ("both", one, ("not", other)), ("both", other, ("not", one)))
            self.judge(3, apart, parting(3, one, other), True, points)


class Told(unittest.TestCase):
    def test_never_or_always(self):
        never = ("both", LEFT, RIGHT)
        self.assertIsNone(can_hold(1, never))
        self.assertIsNone(always(1, ("not", never)))
        self.assertIsNone(always(1, ("either", LEFT, ("either", ON, RIGHT))))
        self.assertIsNotNone(always(1, never))
        self.assertIsNotNone(can_hold(1, ("not", never)))
        self.assertIsNone(can_hold(2, ("both", ("less", (1, 1), 0), ("both", ("more", X, 0), ("more", Y, 0)))))

    def test_sides_all_0(self):
        for word, wall, true in (("less", 1, True), ("less", 0, False), ("is", 0, True), ("is", -3, False),
                                 ("more", -1, True), ("more", 0, False), ("more", 5, False)):
            saying = (word, (0,), wall)
            self.assertIs(can_hold(1, saying) is None, not true)
            self.assertIs(always(1, saying) is None, true)
            self.assertIs(parting(1, saying, ("less", (0,), 1)) is None, true)

    def test_single_points_alone(self):
        corner = ("both", ("is", (1, 1), 1), ("both", ("is", (1, -1), 2), ("less", (0, 4), -1)))
        self.assertEqual(can_hold(2, corner), ((3, 2), (-1, 2)))
        self.assertEqual(always(1, ("not", ("is", (-3,), 2))), ((-2, 3),))
        self.assertEqual(parting(1, ("less", (2,), 1), ("not", ("more", (4,), 2))), ((1, 2),))
        bounds = ("both", ("not", ("more", (3,), 1)), ("not", ("less", (3,), 1)))
        self.assertEqual(can_hold(1, bounds), ((1, 3),))
        self.assertIsNone(can_hold(1, ("both", bounds, ("less", (999,), 333))))

    def test_not_of_not(self):
        for d, one, _ in SAYINGS[:40]:
            self.assertIsNone(parting(d, one, ("not", ("not", one))))
            self.assertIsNotNone(parting(d, one, ("not", one)))

    def test_parting_of_the_same(self):
        for d, one, other in SAYINGS[:60]:
            self.assertIsNone(parting(d, one, one))
            both, either = ("both", one, other), ("either", ("not", one), ("not", other))
            self.assertIsNone(parting(d, both, ("not", either)))
            self.assertIsNone(parting(d, both, ("both", other, one)))
        self.assertIsNone(parting(2, ("less", (-1, 0), -1), ("more", (3, 0), 3)))
        self.assertIsNone(parting(1, ON, ("both", ("not", LEFT), ("not", RIGHT))))


if __name__ == "__main__":
    unittest.main()

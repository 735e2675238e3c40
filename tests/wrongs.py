"""How wrong arguments are tried: each alone, and some at once, when the error that the section lists first is due."""

import unittest
from itertools import combinations, product

from tests.samples import FORTY, NO_INTEGERS, NO_NUMBERS

# What is a tuple of anything only by its looks.
NO_TUPLES = [None, True, 7, 0, "t", "", b"t", {}, [], object(), 1.0]
NO_COUNTS = NO_INTEGERS + [-1, -2, -FORTY]
NO_SIZES = NO_COUNTS + [0]
NOT_ABOVE_0 = NO_NUMBERS + [(0, 1), (-1, 1), (-1, 999), (-FORTY, 1)]


def each(error, wrongs):
    """Wrong arguments of which each is named itself: (error, argument, value that is named)."""
    return [(error, wrong, wrong) for wrong in wrongs]


def two_of_each(found):
    """Two of each error, not all: sets of them are many."""
    kept = []
    for item in found:
        if sum(item[0] is other[0] for other in kept) < 2:
            kept.append(item)
    return kept


class WrongInputs(unittest.TestCase):
    def refused(self, error, value, call, told):
        with self.assertRaises(error, msg=(call.__name__, told)) as caught:
            call(*told)
        self.assertIs(type(caught.exception), error, (call.__name__, told))
        self.assertIs(caught.exception.value, value, (call.__name__, told))

    def refused_alone(self, call, right, wrongs):
        call(*right)
        for at, some in enumerate(wrongs):
            for error, wrong, value in some:
                self.refused(error, value, call, right[:at] + [wrong] + right[at + 1:])

    def refused_at_once(self, call, right, wrongs, order):
        """Some arguments are wrong at once: due is the error listed first, of one class the first from the left."""
        for many in range(2, len(right) + 1):
            for places in combinations(range(len(right)), many):
                for some in product(*[two_of_each(wrongs[at]) for at in places]):
                    told = list(right)
                    for at, (_, wrong, _) in zip(places, some):
                        told[at] = wrong
                    error, _, value = min(some, key=lambda item: order.index(item[0]))
                    self.refused(error, value, call, told)

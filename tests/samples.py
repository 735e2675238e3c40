"""What several tests share: books and points that are right, and things that are none."""

from fractions import Fraction
from itertools import product

FORTY = 10 ** 39 + 7
THREE = (2, (((1, 0), 0), ((0, 1), 0), ((1, 1), 1)))

# Books of one, two and three unknowns, with none to six questions.
BOOKS = [
    (1, ()),
    (1, (((1,), 0),)),
    (1, (((-3,), 6), ((2,), 4))),
    (1, (((1,), -1), ((1,), 0), ((1,), 1), ((-2,), 3), ((9,), 9 * FORTY), ((7,), -5))),
    (2, ()),
    (2, (((0, -4), 2),)),
    THREE,
    (2, (((1, 2), 0), ((1, 2), 1), ((-1, -2), 3), ((2, 4), 9))),
    (2, (((1, 0), 1), ((0, 1), 2), ((1, 1), 3), ((1, -1), -1), ((3, -2), -1))),
    (2, (((FORTY, -1), 1), ((-1, FORTY), FORTY), ((1, 1), 0), ((1, 0), 0), ((0, 1), 0), ((6, 9), 15))),
    (3, ()),
    (3, (((0, 0, 5), 0),)),
    (3, (((1, 0, 0), 0), ((0, 1, 0), 0), ((0, 0, 1), 0))),
    (3, (((1, -1, 0), 0), ((0, 1, -1), 0), ((1, 0, -1), 0))),
    (3, (((1, 1, 1), 1), ((1, 1, 1), 2), ((2, 0, 0), 4), ((1, 2, 3), 6), ((-1, 0, 9), 8), ((0, 4, -6), -2))),
]


def web_book(n, ties):
    """The book of a web: for each tie the one's unknown less the other's, against 0."""
    return (n, tuple((tuple((k == i) - (k == j) for k in range(n)), 0) for i, j in ties))


WEB_BOOKS = [
    web_book(2, [(0, 1)]),
    web_book(3, [(0, 1), (1, 2)]),
    web_book(3, [(0, 1), (0, 2), (1, 2)]),
    web_book(4, [(0, 1), (2, 3)]),
    web_book(4, [(0, 1), (0, 3), (1, 2), (2, 3)]),
    web_book(4, [(0, 1), (0, 2), (0, 3), (1, 2), (1, 3), (2, 3)]),
]
SHELF = WEB_BOOKS[5]

# Books in the plane and in space whose questions all pass through one point, or none through any three.
CROSS = (2, (((1, 0), 0), ((0, 1), 0)))
STAR = (2, (((1, 0), 1), ((0, 1), 2), ((1, 1), 3), ((1, -1), -1)))
CORNER = (3, (((1, 0, 0), 1), ((0, 2, 0), 2), ((1, 1, 1), 3), ((0, 0, -1), -1)))
SPREAD = (3, (((1, 0, 0), 0), ((0, 1, 0), 0), ((0, 0, 1), 0), ((1, 1, 1), 1), ((1, 2, -3), 4)))
STRIPES = (2, (((1, -1), 0), ((2, -2), 1), ((-1, 1), 3)))
MOVED_THREE = (2, (((FORTY, 0), 1), ((0, 1), FORTY), ((FORTY, FORTY), 1 + FORTY * FORTY + FORTY)))

MORE_BOOKS = BOOKS + WEB_BOOKS + [CROSS, STAR, CORNER, SPREAD, STRIPES, MOVED_THREE]
# Those of few questions, of which all wishes can be tried.
SMALL_BOOKS = [book for book in MORE_BOOKS if len(book[1]) <= 4]

COORDINATES = [(0, 1), (1, 1), (-1, 1), (1, 2), (-5, 3), (FORTY, FORTY + 1), (-FORTY, 2), (1, FORTY)]


def points_of(d, many=60):
    """Some points of d unknowns, always the same ones."""
    found = list(product(COORDINATES, repeat=d))
    return found[::max(1, len(found) // many)]


NO_INTEGERS = [None, True, False, "1", "", b"1", 1.0, (1,), [1], {}, object()]

NO_NUMBERS = [
    None, True, False, 1, 0, "12", "", b"ab", 1.0, object(), {}, (), (1,), (1, 2, 3), [1, 2], [0, 1],
    (2, 4), (3, 3), (0, 2), (0, -1), (1, 0), (0, 0), (1, -2), (-2, -4), (True, 1), (1, True), (False, 1),
    ("1", 1), (1, "1"), (1, None), (1.0, 1), ((1,), 1), ([1], 1), (2 * FORTY, 4 * FORTY),
]


def never_points(d):
    """What is no point of any number of unknowns."""
    right = ((1, 2),) * d
    wrong = [None, True, 7, "p", "", b"p", {}, object(), (), [], list(right)]
    wrong = wrong + [right[:-1] + (number,) for number in NO_NUMBERS]
    return wrong + [(number,) + right[1:] for number in NO_NUMBERS]


def no_points(d):
    """What is no point of d unknowns."""
    right = ((1, 2),) * d
    return never_points(d) + [right[1:], right + ((0, 1),)]


def no_questions():
    """What is no question of any number of unknowns."""
    return [
        None, True, 7, "qu", "", b"qu", {}, object(), (), [], [(1, 1), 0], ((1, 1),), ((1, 1), 0, 0),
        ((), 0), ((), 5), ((0,), 0), ((0, 0), 1), ([1, 1], 0), ("11", 0), (None, 0), (1, 0), (True, 0),
        ((1, 1), None), ((1, 1), "0"), ((1, 1), True), ((1, 1), False), ((1, 1), (0, 1)), ((1, 1), [0]),
        ((True, 1), 0), ((1, False), 0), ((1, None), 0), ((1, "1"), 0), ((1, 1.0), 0), ((1, 1), 0.0),
        ((1, (1, 2)), 0), ((1, [1]), 0), {(1, 1): 0},
    ]


def no_questions_of(d):
    one_less, one_more = (1,) * (d - 1), (1,) * (d + 1)
    return no_questions() + [(one_less, 0), (one_more, 0), ((0,) * d, 3)]


def no_books():
    """What is no book."""
    wrong = [
        None, True, 7, "bo", "", b"bo", {}, object(), (), [], (2,), (2, (), ()), [2, ()], (2, []), (2, None),
        (2, ""), (2, "ab"), (2, {}), (2, True), (2, ((1, 0), 0)), (0, ()), (-1, ()), (0, (((), 1),)),
        (2, [((1, 0), 0)]), (2, (((1, 0), 0), ((1, 0), 0))), (2, (((1, 0), 0), ((-1, 0), 0))),
        (2, (((2, 4), 6), ((0, 1), 0), ((-3, -6), -9))), (1, (((2,), 1), ((6,), 3))),
        (2, (((1, 0), 0), ((1,), 0))), (2, (((1, 0), 0), ((1, 0, 0), 0))),
        (2, (((FORTY, 0), FORTY), ((-1, 0), -1))),
    ]
    wrong = wrong + [(d, ()) for d in NO_INTEGERS]
    return wrong + [(2, (((1, 0), 0), question)) for question in no_questions_of(2)]


def no_wishes(book):
    many = len(book[1])
    right = (None, -1, 0, 1, None, 0)[:many]
    wrong = [None, True, 7, "w" * many, "nope", b"nope", {}, object(), list(right), right + (None,), right + (1,)]
    items = [True, False, 2, -2, 0.0, 1.0, "0", "", (), (0,), [None], FORTY]
    if many == 0:
        return wrong
    return wrong + [(), right[1:]] + [right[:-1] + (x,) for x in items] + [(x,) + right[1:] for x in items]


def no_rows(book):
    """What is no row of a book, whether it comes or not."""
    many = len(book[1])
    right = (-1, 0, 1, 1, 0, -1)[:many]
    wrong = [None, True, 7, "r" * many, "nope", b"nope", {}, object(), list(right), right + (0,), right + (1, 1)]
    if many == 0:
        return wrong + [[], "", (None,)]
    items = [None, True, False, 2, -2, 0.0, 1.0, "0", "", (), (0,), [1], FORTY]
    return wrong + [(), right[1:]] + [right[:-1] + (x,) for x in items] + [(x,) + right[1:] for x in items]


def no_papers(book):
    """What is no tuple of as many numbers as questions."""
    many = len(book[1])
    right = ((0, 1), (-1, 2), (3, 1), (0, 1), (1, 1), (5, 7))[:many]
    wrong = [None, True, 7, "p" * many, "nope", b"nope", {}, object(), list(right), right + ((0, 1),)]
    if many == 0:
        return wrong + [[], ""]
    wrong = wrong + [(), right[1:], (0,) * many]
    return wrong + [right[:-1] + (x,) for x in NO_NUMBERS] + [(x,) + right[1:] for x in NO_NUMBERS]


def no_index_tuples(book):
    """What is no tuple of indexes of a book."""
    wrong = [None, True, 7, 0, "i", b"", {}, object(), [], [0], [0, 1], {0: 1}]
    wrong = wrong + [(x,) for x in no_indexes(book)]
    return wrong + [(0, x) for x in no_indexes(book)] if book[1] else wrong + [(0,), (0, 0)]


def no_indexes(book):
    many = len(book[1])
    return NO_INTEGERS + [-1, -many - 1, many, many + 1, FORTY, -FORTY]


def excess(question, point):
    """What the sides come to at a point, less the wall; reckoned apart from the program."""
    return sum(side * Fraction(*x) for side, x in zip(question[0], point)) - question[1]


def row_by_fractions(book, point):
    found = [excess(question, point) for question in book[1]]
    return tuple((x > 0) - (x < 0) for x in found)


def number(x):
    return (x.numerator, x.denominator)


def plain(told):
    """True if all is plain integers and None in tuples, all the way down."""
    if type(told) is tuple:
        return all(plain(item) for item in told)
    return told is None or type(told) is int

"""A console: books that are kept by name, and orders, each a text, that change them or ask something of them."""

from sidebooks.books import check_book, turned, without
from sidebooks.errors import InvalidName, NothingToUndo, UnknownName, Unorderly
from sidebooks.papers import comes, settle
from sidebooks.points import row_of
from sidebooks.polynomials import how_many, merged, polynomial
from sidebooks.readers import integer_in, point_in, read_book, row_in, wish_in
from sidebooks.roads import how_many_roads, steps
from sidebooks.rows import first_row, walls
from sidebooks.texts import show_book, show_point, show_row

# What stands behind the word of each order.
ORDERS = {
    "book": ("name",),
    "without": ("name", "name", "integer"),
    "turned": ("name", "name", "integer"),
    "merged": ("name", "name", "integer"),
    "drop": ("name",),
    "undo": (),
    "show": ("name",),
    "row": ("name", "point"),
    "comes": ("name", "wish"),
    "paper": ("name", "wish"),
    "first": ("name", "wish"),
    "count": ("name",),
    "polynomial": ("name",),
    "steps": ("name", "row", "row"),
    "roads": ("name", "row", "row"),
    "walls": ("name", "row"),
    "names": (),
}
MOST_LETTERS = 8
DONE = "done"
NO = "no"
NONE = "none"


def _without(book, index):
    return without(book, index)


def _turned(book, index):
    return turned(book, index)


def _merged(book, index):
    return merged(book, index)


def _shown(book):
    return show_book(book)


def _row(book, point):
    return show_row(row_of(book, point))


def _comes(book, wish):
    return "yes" if comes(book, wish) else NO


def _paper(book, wish):
    verdict, told = settle(book, wish)
    return show_point(told) if verdict == "never" else NO


def _first(book, wish):
    found = first_row(book, wish)
    return NO if found is None else show_row(found)


def _count(book):
    return _show_all(how_many(book))


def _polynomial(book):
    return _show_all(polynomial(book))


def _steps(book, one, other):
    return str(steps(book, one, other))


def _roads(book, one, other):
    return str(how_many_roads(book, one, other))


def _crossings(book, row):
    return _show_all(walls(book, row)) or NONE


# The orders that keep another book, and those that ask something.
MADE = {"without": _without, "turned": _turned, "merged": _merged}
ASKED = {"show": _shown, "row": _row, "comes": _comes, "paper": _paper, "first": _first, "count": _count,
         "polynomial": _polynomial, "steps": _steps, "roads": _roads, "walls": _crossings}


class Console:
    """Named books, none at first."""

    def __init__(self):
        self._kept = {}
        # For each change that can be taken back the name, and the book that stood under it before, or None.
        self._past = []

    def keep(self, name, book):
        if not _is_name(name):
            raise InvalidName(name)
        check_book(book)
        self._past.append((name, self._kept.get(name)))
        self._kept[name] = book

    def drop(self, name):
        self._past.append((name, self.book(name)))
        del self._kept[name]

    def undo(self):
        if not self._past:
            raise NothingToUndo(0)
        name, before = self._past.pop()
        if before is None:
            del self._kept[name]
        else:
            self._kept[name] = before

    def book(self, name):
        if not _is_name(name) or name not in self._kept:
            raise UnknownName(name)
        return self._kept[name]

    def names(self):
        return sorted(self._kept)

    def order(self, text):
        word, parts, below = _order_in(text)
        if word == "names":
            return "\n".join(self.names()) or NONE
        if word in ASKED:
            asked = ASKED[word]
            told, rest = self.book(parts[0]), parts[1:]
            return asked(told, *rest)
        if word in MADE:
            made = MADE[word]
            self.keep(parts[0], made(self.book(parts[1]), parts[2]))
        elif word == "book":
            self.keep(parts[0], read_book(below))
        elif word == "drop":
            self.drop(parts[0])
        else:
            self.undo()
        return DONE


def _is_name(told):
    return isinstance(told, str) and 1 <= len(told) <= MOST_LETTERS and all("a" <= sign <= "z" for sign in told)


def _order_in(text):
    """(word, what is told behind it, the lines below) of a text that is an order."""
    if not isinstance(text, str):
        raise Unorderly(text)
    line, more, below = text.partition("\n")
    words = line.split(" ")
    parts = _parts_in(words[1:], ORDERS[words[0]]) if words[0] in ORDERS else None
    # A book alone has lines below, and always has some.
    if parts is None or (more != "") != (words[0] == "book"):
        raise Unorderly(text)
    return (words[0], parts, below)


def _parts_in(words, kinds):
    """What words say that are of these kinds, `None` if they are not."""
    if kinds and kinds[-1] == "point":
        # Its numbers are all words that are left.
        words = words[:len(kinds) - 1] + [" ".join(words[len(kinds) - 1:])]
    if len(words) != len(kinds):
        return None
    found = [_part_in(word, kind) for word, kind in zip(words, kinds)]
    return None if None in found else found


def _part_in(word, kind):
    if kind == "name":
        return word if _is_name(word) else None
    if kind == "integer":
        return integer_in(word)
    if kind == "point":
        return point_in(word)
    return row_in(word) if kind == "row" else wish_in(word)


def _show_all(numbers):
    return " ".join([str(number) for number in numbers])

"""Numbers, points, rows, wishes, books and sayings, read from texts as texts.py shows them."""

from math import gcd

from sidebooks.books import is_book
from sidebooks.errors import Unreadable

MOST_DIGITS = 9
SIGNS = {"-": -1, "0": 0, "+": 1, "?": None}
LEAVES = ("less", "is", "more")
PARTS = {"not": 1, "both": 2, "either": 2}


def read_number(text):
    return _read_alone(text, number_in)


def read_point(text):
    return _read_alone(text, point_in)


def read_row(text):
    return _read_alone(text, row_in)


def read_wish(text):
    return _read_alone(text, wish_in)


def read_book(text):
    lines = _lines_of(text)
    words = lines[0].split(" ")
    d = integer_in(words[1]) if len(words) == 2 and words[0] == "book" else None
    if d is None:
        raise Unreadable(1)
    questions = []
    for place, line in enumerate(lines[1:]):
        question = _question_in(line)
        if question is None:
            raise Unreadable(place + 2)
        questions.append(question)
    told = (d, tuple(questions))
    if not is_book(told):
        raise Unreadable(0)
    return told


def read_saying(text):
    return _read_alone(text, _saying_in)


def integer_in(word):
    """The integer that a word shows; here and below `None` if it shows none."""
    digits = word[1:] if word.startswith("-") else word
    if not digits.isascii() or not digits.isdigit() or len(digits) > MOST_DIGITS:
        return None
    if digits.startswith("0") and word != "0":
        return None
    return int(word)


def number_in(word):
    shown, slash, below = word.partition("/")
    top = integer_in(shown)
    bottom = integer_in(below) if slash else 1
    if top is None or bottom is None or bottom < 1 or gcd(top, bottom) > 1:
        return None
    # A bottom of 1 is not shown.
    return None if slash and bottom == 1 else (top, bottom)


def point_in(line):
    return _all_or_none([number_in(word) for word in line.split(" ")])


def row_in(word):
    found = wish_in(word)
    return None if found is None or None in found else found


def wish_in(word):
    if word == ".":
        return ()
    if not word or any(sign not in SIGNS for sign in word):
        return None
    return tuple([SIGNS[sign] for sign in word])


def _read_alone(text, shown_in):
    """What a text of one line shows, by a function that reads a line."""
    lines = _lines_of(text)
    found = shown_in(lines[0])
    if found is None:
        raise Unreadable(1)
    if len(lines) > 1:
        raise Unreadable(2)
    return found


def _lines_of(text):
    if not isinstance(text, str):
        raise Unreadable(1)
    return text.split("\n")


def _all_or_none(found):
    return None if None in found else tuple(found)


def _sides_in(words):
    return _all_or_none([integer_in(word) for word in words.split(" ")])


def _question_in(line):
    shown, colon, behind = line.partition(" : ")
    sides, wall = _sides_in(shown), integer_in(behind)
    return (sides, wall) if colon and sides is not None and wall is not None else None


def _saying_in(line):
    """The saying that a line shows, if all of its sides are of one number of unknowns."""
    # What has been opened and lacks parts waits here, so that no text leads the program deep into itself.
    waiting = []
    many = []
    whole = None
    at = 0
    while whole is None:
        opened, at = _opened_at(line, at)
        if opened is None:
            return None
        waiting.append(opened)
        if opened[0] in LEAVES:
            many.append(len(opened[1]))
        whole, at = _closed(waiting, line, at)
        if at is None:
            return None
    return whole if at == len(line) and min(many) == max(many) else None


def _opened_at(line, at):
    """(word, with sides and wall if it has them; place behind), or `None` for the first if no saying begins there."""
    blank = line.find(" ", at)
    if line[at:at + 1] != "(" or blank < 0:
        return (None, at)
    word = line[at + 1:blank]
    if word in PARTS:
        return ([word], blank)
    opening, closing = blank + 1, line.find("]", blank)
    end = line.find(")", closing)
    if word not in LEAVES or closing < 0 or end < 0:
        return (None, at)
    if line[opening] != "[" or line[closing + 1] != " ":
        return (None, at)
    sides, wall = _sides_in(line[opening + 1:closing]), integer_in(line[closing + 2:end])
    return (None, at) if sides is None or wall is None else ([word, sides, wall], end)


def _closed(waiting, line, at):
    """Closes what has all of its parts: (the whole saying or `None`, place behind or `None` if the line is wrong)."""
    while len(waiting[-1]) == 1 + PARTS.get(waiting[-1][0], 2):
        if line[at] != ")":
            return (None, None)
        at += 1
        told = tuple(waiting.pop())
        if not waiting:
            return (told, at)
        waiting[-1].append(told)
        if at == len(line):
            return (None, None)
    return (None, at + 1) if line[at] == " " else (None, None)

"""Sums of sides that come to 0, and the wishes that they forbid.

A balance is (indexes, factors): the sides of these questions, each times its
factor, sum to 0 for each unknown, no factor is 0, and none of the questions can
be left out; so its factors are the only ones but for multiples.

A bar is (how many, indexes, factors, total): a balance in a sense in which the
walls, each times its factor, sum to a total from 0 on. A wish comes exactly if
no bar is against it, for the fewest questions that forbid it are those of a
bar: were two balances among them, one less a multiple of the other would be a
paper with fewer questions.
"""

from sidebooks.basics import rest_of, sign
from sidebooks.books import all_sides
from sidebooks.errors import NeverComes

ANSWERS = (-1, 0, 1)


def balances(vectors):
    """All balances of a list of tuples of sides, each once."""
    found = []
    # The indexes of vectors that make no sum 0, each with the rests of its vectors.
    loose = [((), [])]
    for at, vector in enumerate(vectors):
        marks = tuple([1 if place == at else 0 for place in range(len(vectors))])
        grown = []
        for indexes, kept in loose:
            rest = rest_of(vector + marks, kept)
            longer = indexes + (at,)
            if any(rest[:len(vector)]):
                grown.append((longer, kept + [rest]))
                continue
            # The marks tell how often each vector went into the rest, which is 0.
            factors = tuple([rest[len(vector) + index] for index in longer])
            if all(factors):
                found.append((longer, factors))
        loose = loose + grown
    return found


def bars(book):
    """All bars of a book: those of fewest questions first, then as their indexes compare."""
    found = []
    for indexes, factors in balances(all_sides(book)):
        total = sum([factor * book[1][index][1] for index, factor in zip(indexes, factors)])
        if total >= 0:
            found.append((len(indexes), indexes, factors, total))
        if total <= 0:
            found.append((len(indexes), indexes, tuple([-factor for factor in factors]), -total))
    return sorted(found)


def is_against(bar, wish):
    """True if the factors of a bar are a paper against a wish."""
    _, indexes, factors, total = bar
    above = total > 0
    for index, factor in zip(indexes, factors):
        wished = wish[index]
        if wished is None or wished * factor < 0:
            return False
        if wished != 0:
            above = True
    return above


def first_against(known, wish):
    """The first of the bars of a book that is against a wish, `None` if it comes."""
    for bar in known:
        if is_against(bar, wish):
            return bar
    return None


def comes_by(known, wish):
    return first_against(known, wish) is None


def check_comes(known, row):
    if not comes_by(known, row):
        raise NeverComes(row)


def with_answer(wish, index, answer):
    """A row or wish with another answer for one question."""
    return wish[:index] + (answer,) + wish[index + 1:]


def exchanged(row, index):
    """A row with just the answer for one question exchanged."""
    return with_answer(row, index, -row[index])


def zeros_of(row):
    """The tuple of the indexes at which a row has 0."""
    return tuple([index for index, answer in enumerate(row) if answer == 0])


def parts_of(one, other):
    """The ascending tuple of the indexes at which one of two rows has -1 and the other 1."""
    return tuple([index for index, (first, second) in enumerate(zip(one, other)) if first * second < 0])


def rows_by(known, many, answers):
    """The ascending list of the rows that come and have some answers alone: all three, or those without 0."""
    found = [()]
    for at in range(many):
        # Bars that end earlier have been asked before. What comes so far comes on with one of the answers.
        ending = [bar for bar in known if bar[1][-1] == at]
        longer = [row + (answer,) for row in found for answer in answers]
        found = [row for row in longer if comes_by(ending, row)]
    return found


def signs_of(bar, many):
    """The answers that a bar forbids together, with 0 for all other questions."""
    _, indexes, factors, _ = bar
    signs = [0] * many
    for index, factor in zip(indexes, factors):
        signs[index] = sign(factor)
    return tuple(signs)

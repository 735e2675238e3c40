"""The errors that the program raises, each with the value that is wrong."""


class BookError(ValueError):
    """What all of them are, so that a caller can catch them together."""

    def __init__(self, value):
        self.value = value


class InvalidNumber(BookError):
    """For what is no number, or none that may stand there."""


class InvalidPoint(BookError):
    """For what is no point, or one of another number of unknowns."""


class InvalidQuestion(BookError):
    """For what is no question, or one of another number of unknowns."""


class InvalidBook(BookError):
    """For what is no book, or none that may stand there."""


class InvalidRow(BookError):
    """For what is no row of the book."""


class InvalidWish(BookError):
    """For what is no wish of the book."""


class InvalidPaper(BookError):
    """For what can not be a paper of the book."""


class InvalidIndex(BookError):
    """For what is no index, no tuple of indexes, or no flat."""


class InvalidPair(BookError):
    """For two things that do not go together."""


class NeverComes(BookError):
    """For a row that no point has."""


class NotFull(BookError):
    """For a row with a nought where none may be."""


class InvalidLot(BookError):
    """For what is no lot, or no rows for one."""


class InvalidTape(BookError):
    """For what is no tuple of numbers from 0 on and below 1."""


class InvalidWeb(BookError):
    """For what is no web."""


class InvalidSaying(BookError):
    """For what is no saying of so many unknowns."""


class InvalidName(BookError):
    """For what can not be the name of a book."""


class NoLongRun(BookError):
    """For a question at which all drawn rows have nought."""


class HasRound(BookError):
    """For a round of a direction that should have none."""


class UnknownName(BookError):
    """For a name under which no book is kept."""


class NothingToUndo(BookError):
    """For an undo with no change left to take back."""


class Unreadable(BookError):
    """For the number of the line that can not stand there."""


class Unorderly(BookError):
    """For a text that is no order."""

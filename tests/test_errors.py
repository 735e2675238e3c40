"""Section sidebooks/errors.py."""

import inspect
import unittest

from sidebooks import errors

NAMES = (
    "InvalidNumber InvalidPoint InvalidQuestion InvalidBook InvalidRow InvalidWish InvalidPaper InvalidIndex"
    " InvalidPair NeverComes NotFull InvalidLot InvalidTape InvalidWeb InvalidSaying InvalidName NoLongRun"
    " HasRound UnknownName NothingToUndo Unreadable Unorderly"
).split()


class Errors(unittest.TestCase):
    def test_just_the_listed_classes(self):
        found = {name: kind for name, kind in vars(errors).items() if inspect.isclass(kind)}
        self.assertEqual(sorted(found), sorted(NAMES + ["BookError"]))
        for kind in found.values():
            self.assertEqual(kind.__module__, "sidebooks.errors")

    def test_what_they_are_under(self):
        self.assertEqual(errors.BookError.__bases__, (ValueError,))
        for name in NAMES:
            self.assertEqual(getattr(errors, name).__bases__, (errors.BookError,), name)

    def test_the_value(self):
        for name in NAMES + ["BookError"]:
            kind = getattr(errors, name)
            for value in (None, 0, "text", (1, (2,)), [3], {}):
                self.assertIs(kind(value).value, value)
                self.assertIs(kind(value=value).value, value)

    def test_just_one_argument(self):
        for name in NAMES + ["BookError"]:
            kind = getattr(errors, name)
            for wrong in (lambda: kind(), lambda: kind(1, 2), lambda: kind(other=1), lambda: kind(1, value=1)):
                self.assertRaises(TypeError, wrong)

    def test_each_is_caught_as_a_whole(self):
        for name in NAMES:
            with self.assertRaises(errors.BookError) as caught:
                raise getattr(errors, name)(name)
            self.assertEqual(caught.exception.value, name)
            self.assertIsInstance(caught.exception, ValueError)


if __name__ == "__main__":
    unittest.main()

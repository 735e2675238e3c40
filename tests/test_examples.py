"""The examples of the document, word for word, and those of the README."""

import doctest
import unittest
from pathlib import Path

EXAMPLES = '''
>>> from sidebooks.books import at_once, book, is_book, moved, rank, turned, without
>>> three = (2, (((1, 0), 0), ((0, 1), 0), ((1, 1), 1)))
>>> [is_book(three), book(1, [((2,), 4), ((-1,), -2)]), without(three, 1), turned(three, 2)[1][2], at_once(three), rank(three)]
[True, (1, (((1,), 2),)), (2, (((1, 0), 0), ((1, 1), 1))), ((-1, -1), -1), False, 2]
>>> moved(three, ((1, 2), (0, 1)))
(2, (((2, 0), 1), ((0, 1), 0), ((2, 2), 3)))

>>> from sidebooks.points import between, fits, row_between, row_of
>>> [row_of(three, ((0, 1), (1, 2))), fits(three, (None, 1, -1), ((0, 1), (1, 2))), row_between(three, ((0, 1), (1, 1)), ((1, 1), (1, 1)))]
[(0, 1, -1), True, (1, 1, 1)]
'''


class Examples(unittest.TestCase):
    def run_all(self, text, name, many):
        told = doctest.DocTestParser().get_doctest(text, {}, name, None, 0)
        lines = []
        result = doctest.DocTestRunner(verbose=False).run(told, out=lines.append)
        self.assertEqual((result.failed, result.attempted), (0, many), "".join(lines))

    def test_the_document(self):
        self.run_all(EXAMPLES, "DOC.md", 6)

    def test_the_readme(self):
        readme = Path(__file__).resolve().parent.parent / "README.md"
        text = readme.read_text().replace("```", "")
        self.run_all(text, "README.md", 10)


if __name__ == "__main__":
    unittest.main()

"""The examples of points [10] and [11], as the document has them, and those of README.md."""

import doctest
import os
import unittest

BOOKS = r"""
>>> from surepieces.books import fits, has_ring, is_closed_lot, least_turn, places, stands_in, way
>>> book = (2, ("ab", "bc", "bd", "ca", "da"))
>>> [places(book), fits(book, "abcabd"), fits(book, "abc"), stands_in("abcabd", "dabcabda"), least_turn("cabdab"), way(book, "bc", "da")]
[['a', 'b', 'c', 'd'], True, False, True, 'abcabd', 'bcabda']
>>> [has_ring((2, ("ab", "bb"))), is_closed_lot((2, ("ab", "bb")), ("b",))]
[False, True]
"""

SURE = r"""
>>> from surepieces.books import fits, stands_in
>>> from surepieces.sure import is_leaving, is_sure, paper_holds, sure_paper, without
>>> book = (2, ("ab", "bc", "bd", "ca", "da"))
>>> [is_sure(book, "cabd"), is_sure(book, "cabc"), is_leaving(book, "cabc", (1, 2, "bda")), stands_in("abcabd", "cabc"), paper_holds(book, "cabd", ((), ("bc", "ca"), ("ab", "bc", "ca")))]
[True, False, True, False, True]
"""

README = os.path.join(os.path.dirname(os.path.dirname(os.path.abspath(__file__))), "README.md")


class ExamplesTest(unittest.TestCase):
    def run_examples(self, text, name, number):
        examples = doctest.DocTestParser().get_doctest(text, {}, name, name, 0)
        told = []
        result = doctest.DocTestRunner().run(examples, out=told.append)
        self.assertEqual(result.failed, 0, "".join(told))
        self.assertGreaterEqual(result.attempted, number)

    def test_point_10(self):
        self.run_examples(BOOKS, "point 10", 4)

    def test_point_11(self):
        self.run_examples(SURE, "point 11", 4)

    def test_readme(self):
        with open(README, encoding="ascii") as file:
            # The line that ends a block would be read as what the example before it returns.
            self.run_examples(file.read().replace("```", ""), "README.md", 4)


if __name__ == "__main__":
    unittest.main()

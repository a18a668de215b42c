"""The examples of points [10] to [13], [31] to [34] and [38], as the document has them, and those of README.md."""

import doctest
import os
import unittest

BOOKS = r"""
>>> from surepieces.books import fits, has_ring, is_closed_lot, least_turn, places, stands_in, way
>>> book = (2, ("ab", "bc", "bd", "ca", "da"))
>>> [places(book), fits(book, "abcabd"), fits(book, "abc"), stands_in("abcabd", "dabcabda"), least_turn("cabdab"), way(book, "bc", "da")]
[['a', 'b', 'c', 'd'], True, False, True, 'abcabd', 'bcabda']
>>> [has_ring((2, ("ab", "bb"))), is_closed_lot((2, ("ab", "bb")), ("b",))]
[False, True]
"""

SURE = r"""
>>> from surepieces.books import fits, stands_in
>>> from surepieces.sure import is_leaving, is_sure, paper_holds, sure_paper, without
>>> book = (2, ("ab", "bc", "bd", "ca", "da"))
>>> [is_sure(book, "cabd"), is_sure(book, "cabc"), is_leaving(book, "cabc", (1, 2, "bda")), stands_in("abcabd", "cabc"), paper_holds(book, "cabd", ((), ("bc", "ca"), ("ab", "bc", "ca")))]
[True, False, True, False, True]
"""

LONGEST = r"""
>>> from surepieces.longest import longer, longest, plain_pieces
>>> book = (2, ("ab", "bc", "bd", "ca", "da"))
>>> [longest(book), plain_pieces(book), longer(book, "cabd")]
[['abcabdab', 'abdabcab'], ['ab', 'bca', 'bda'], ['bcabd', 'cabda']]
"""

SEVERAL = r"""
>>> from surepieces.several import fewest, needed, one_is_sure
>>> book = (2, ("ab", "bc", "bd", "ca", "da"))
>>> [one_is_sure(book, ["cabc", "dabd"]), one_is_sure(book, ["cabc", "cabd"]), needed(book, ["cabc", "cabd"]), fewest(book, ["cabc", "cabd", "dabc"])]
[False, True, [1], (1,)]
"""

COUNTS = r"""
>>> from surepieces.counts import bar_holds, counts_between, counts_of, least_of, most_of, ring_of
>>> book = (2, ("ab", "bc", "bd", "ca", "da"))
>>> bounds = ((3, 4), (1, 9), (1, 1), (0, 9), (0, 9))
>>> [counts_of(book, "abcabd"), ring_of(book, (1, 1, 0, 1, 0)) is not None, most_of(book, bounds, "bc"), least_of(book, bounds, "ca"), bar_holds(book, ((3, 4), (0, 1), (0, 1), (0, 9), (0, 9)), ("a",))]
[(2, 1, 1, 1, 1), True, 3, 2, False]
>>> bar_holds(book, ((3, 4), (0, 1), (0, 1), (0, 9), (0, 9)), ("a", "c", "d"))
True
"""

SHORTEST = r"""
>>> from surepieces.shortest import best_counts, is_best, least_cost, prices_hold, shortest
>>> book = (2, ("ab", "bc", "bd", "ca", "da"))
>>> [shortest(book), best_counts(book, (1, 1, 1, 1, 1)), least_cost(book, (5, 1, 1, 1, 1)), prices_hold(book, (1, 1, 1, 1, 1), 6, (0, 1, 0, 0)), is_best(book, (1, 1, 1, 1, 1), (3, 1, 2, 1, 2))]
[6, (2, 1, 1, 1, 1), 14, False, False]
>>> prices_hold(book, (1, 1, 1, 1, 1), 6, (1, 0, 1, 1))
True
"""

NUMBERS = r"""
>>> from surepieces.numbers import following, many, many_from, nth, place, rings_many, trees
>>> book = (2, ("ab", "bc", "bd", "ca", "da"))
>>> counts = (3, 2, 1, 2, 1)
>>> [many(book, counts), rings_many(book, counts), many_from(book, counts, "abd"), nth(book, counts, 0), place(book, counts, "abdabcabc"), following(book, counts, "abcabcabd"), trees(book, counts, "a")]
[9, 1, 1, 'abcabcabd', 2, 'abcabdabc', 6]
"""

SPARE = r"""
>>> from surepieces.spare import largest_lots, least_join, may_go, needed, rest, round_ring
>>> book = (2, ("ab", "bc", "bd", "ca", "da"))
>>> [needed(book), may_go(book, ("bd", "da")), largest_lots((2, ("ab", "ba", "bc", "cd", "dc"))), round_ring(book), least_join((2, ("ab", "bc")))]
[['ab', 'bc', 'bd', 'ca', 'da'], True, [('ab', 'ba'), ('cd', 'dc')], 'abc', 1]
"""

DESK = r"""
>>> from surepieces.desk import Desk
>>> desk = Desk()
>>> [desk.execute(line) for line in ["book 2: ab bc bd ca da", "ring", "sure cabd", "shortest", "take bd", "ring", "back", "needed"]]
['ok', 'yes', 'yes', '6', 'ok', 'no', 'take', 'ab bc bd ca da']
"""

README = os.path.join(os.path.dirname(os.path.dirname(os.path.abspath(__file__))), "README.md")


class ExamplesTest(unittest.TestCase):
    def run_examples(self, text, name, number):
        examples = doctest.DocTestParser().get_doctest(text, {}, name, name, 0)
        told = []
        result = doctest.DocTestRunner().run(examples, out=told.append)
        self.assertEqual(result.failed, 0, "".join(told))
        self.assertGreaterEqual(result.attempted, number)

    def test_point_10(self):
        self.run_examples(BOOKS, "point 10", 4)

    def test_point_11(self):
        self.run_examples(SURE, "point 11", 4)

    def test_point_12(self):
        self.run_examples(LONGEST, "point 12", 3)

    def test_point_13(self):
        self.run_examples(SEVERAL, "point 13", 3)

    def test_point_31(self):
        self.run_examples(COUNTS, "point 31", 5)

    def test_point_32(self):
        self.run_examples(SHORTEST, "point 32", 4)

    def test_point_33(self):
        self.run_examples(NUMBERS, "point 33", 4)

    def test_point_34(self):
        self.run_examples(SPARE, "point 34", 3)

    def test_point_38(self):
        self.run_examples(DESK, "point 38", 3)

    def test_readme(self):
        with open(README, encoding="ascii") as file:
            # The line that ends a block would be read as what the example before it returns.
            self.run_examples(file.read().replace("```", ""), "README.md", 20)


if __name__ == "__main__":
    unittest.main()

"""Points [5] and [11]: sure pieces, leavings, ring texts without a piece; papers."""

import unittest
from itertools import combinations

from tests.helper import BOOK, odd_objects, pieces, plain_fits, plain_leaving, plain_leavings, plain_paper
from tests.helper import plain_stands, small_books
from surepieces.books import fits, has_ring, stands_in
from surepieces.sure import is_leaving, is_sure, leaving, paper_holds, sure_paper, without

LOOPED = (2, ("aa", "ab", "ba"))
CYCLE = (2, ("ab", "bc", "ca"))


class SureTest(unittest.TestCase):
    def assert_sure(self, book, piece):
        self.assertIs(is_sure(book, piece), True, (book, piece))
        self.assertIsNone(leaving(book, piece))
        self.assertIsNone(without(book, piece))
        paper = sure_paper(book, piece)
        self.assertIs(paper_holds(book, piece, paper), True)
        self.assertTrue(plain_paper(book, piece, paper), paper)

    def assert_not_sure(self, book, piece):
        self.assertIs(is_sure(book, piece), False, (book, piece))
        self.assertIsNone(sure_paper(book, piece))
        told = leaving(book, piece)
        self.assertIs(is_leaving(book, piece, told), True)
        self.assertTrue(plain_leaving(book, piece, told), told)
        ring = without(book, piece)
        self.assertTrue(fits(book, ring) and plain_fits(book, ring), ring)
        self.assertFalse(stands_in(ring, piece) or plain_stands(ring, piece), ring)

    def test_sure_pieces(self):
        for piece in ("ab", "bc", "cabd", "dabc", "abcab", "abdab", "bcabda", "abcabdab", "abdabcab"):
            self.assert_sure(BOOK, piece)

    def test_pieces_that_are_not_sure(self):
        for piece in ("cabc", "dabd", "abcabc", "abcabdabc", "cabdabca", "abcabcabdabd", "cabc" + "abc" * 18):
            self.assert_not_sure(BOOK, piece)

    def test_pieces_of_one_step(self):
        for book in (BOOK, LOOPED, CYCLE, (2, ("aa",)), (6, ("aaaaaa",)), (3, ("aab", "aba", "baa"))):
            for window in book[1]:
                self.assert_sure(book, window)
                self.assertEqual(sure_paper(book, window), ())
                self.assertIs(paper_holds(book, window, ()), True)
                self.assertIs(paper_holds(book, window, ((),)), False)

    def test_a_book_of_one_window(self):
        for size in range(2, 7):
            book = (size, ("a" * size,))
            for length in range(size, 20):
                self.assert_sure(book, "a" * length)

    def test_a_window_whose_two_ends_are_one_place(self):
        for piece in ("aa", "ab", "ba", "aab", "baa", "aba", "aaba", "abaa"):
            self.assert_sure(LOOPED, piece)
        for piece in ("aaa", "bab", "baab", "baaab", "ababa", "aabaa", "aabaaa"):
            self.assert_not_sure(LOOPED, piece)
        self.assertEqual(leaving((2, ("aa", "ab", "ba")), "baab"), (1, 2, "aa"))

    def test_endless_books(self):
        for piece in ("ab", "abc", "abca", "abcabc", "bcabcabcabcabcab"):
            self.assert_sure(CYCLE, piece)
        for length in (6, 7, 12, 13, 60):
            self.assert_sure((6, ("ababab", "bababa")), ("ab" * 40)[:length])

    def test_longer_than_once_and_twice_round(self):
        book = (3, ("aab", "aba", "baa"))
        for length in range(3, 14):
            self.assert_sure(book, ("aab" * 5)[:length])
        for length in range(7, 20):
            piece = ("abcabd" * 5)[:length]
            (self.assert_sure if length <= 8 else self.assert_not_sure)(BOOK, piece)


class IsLeavingTest(unittest.TestCase):
    def test_leavings(self):
        self.assertIs(is_leaving(BOOK, "cabc", (1, 2, "bda")), True)
        self.assertIs(is_leaving(BOOK, "dabd", (1, 2, "bca")), True)
        self.assertIs(is_leaving(LOOPED, "baab", (1, 2, "aa")), True)
        self.assertIs(is_leaving(LOOPED, "aaa", (1, 1, "aba")), True)

    def test_no_leavings(self):
        for value in ((2, 2, "bda"), (1, 1, "bda"), (2, 1, "bda"), (0, 2, "bda"), (1, 3, "bda"), (-1, 2, "bda"),
                      [1, 2, "bda"], (1, 2), (1, 2, "bda", "bda"), ("1", 2, "bda"), (1, "2", "bda"), (True, 2, "bda"),
                      (1, None, "bda"), (1, 2, b"bda"), (1, 2, ("bda",)), (1, 2, ["bda"]), (1, 2, None), (1, 2, ""),
                      (1, 2, "b"), (1, 2, "bca"), (1, 2, "bd"), (1, 2, "da"), (1, 2, "bdabda"), (1, 2, "bdabca"),
                      (1, 2, "bcabda"), (1, 2, "bxa"), (1, 2, "BDA"), ((1, 2), "bda"), "12", None, {1: 2}, (10 ** 30, 2),
                      (1, 10 ** 30, "bda"), (2, 1, "abd"), (1, 2, {"bda"}), ([1], [2], "bda"), (1, 2, 3)):
            self.assertIs(is_leaving(BOOK, "cabc", value), False, value)

    def test_true_is_no_integer(self):
        self.assertIs(is_leaving(LOOPED, "aaa", (1, 1, "aba")), True)
        self.assertIs(is_leaving(LOOPED, "aaa", (True, 1, "aba")), False)
        self.assertIs(is_leaving(LOOPED, "aaa", (1, True, "aba")), False)

    def test_any_object_in_each_of_its_places(self):
        for item in odd_objects():
            self.assertIs(is_leaving(BOOK, "cabc", (item, 2, "bda")), type(item) is int and item == 1)
            self.assertIs(is_leaving(BOOK, "cabc", (1, item, "bda")), False)
            self.assertIs(is_leaving(BOOK, "cabc", (1, 2, item)), False)

    def test_sure_pieces_have_none(self):
        for i in range(4):
            for j in range(4):
                for way in pieces(BOOK, 6):
                    self.assertIs(is_leaving(BOOK, "cabd", (i, j, way)), False)
                    self.assertIs(is_leaving(BOOK, "ab", (i, j, way)), False)

    def test_all_ways_of_small_books(self):
        told = 0
        books = [LOOPED, BOOK, (2, ("aa", "ab", "ba", "bb")), (2, ("aa", "ab", "ac", "ba", "bc", "ca", "cb")),
                 (3, ("aaa", "aab", "aba", "abb", "baa", "bba")), (2, ("ab", "ac", "ba", "bc", "ca"))]
        for book in books:
            ways = list(pieces(book, book[0] + 4))
            for piece in list(pieces(book, book[0] + 3))[::5]:
                for i in range(0, 5):
                    for j in range(0, 5):
                        for way in ways:
                            found = is_leaving(book, piece, (i, j, way))
                            self.assertIs(found, plain_leaving(book, piece, (i, j, way)), (book, piece, i, j, way))
                            told += found
        self.assertGreater(told, 100)


class PapersTest(unittest.TestCase):
    def test_told_papers(self):
        for paper in (((), ("bc", "ca"), ("ab", "bc", "ca")), (("bc", "ca"), ("bc", "ca"), ("ab", "bc", "ca")),
                      ((), ("bc", "bd", "ca"), ("ab", "bc", "ca"))):
            self.assertIs(paper_holds(BOOK, "cabd", paper), plain_paper(BOOK, "cabd", paper), paper)
        self.assertIs(paper_holds(BOOK, "cabd", ((), ("bc", "ca"), ("ab", "bc", "ca"))), True)

    def test_lots_may_have_more_than_is_asked_for(self):
        one, two, three = (), ("bc", "ca"), ("ab", "bc", "ca")
        for paper in ((("ca",), two, three), (("bc", "ca"), two, three), (one, ("ab", "bc", "ca"), three),
                      (one, ("ab", "bc", "ca"), BOOK[1])):
            self.assertTrue(plain_paper(BOOK, "cabd", paper), paper)
            self.assertIs(paper_holds(BOOK, "cabd", paper), True, paper)
        for paper in ((("da",), two, three), (("ab",), two, three), (("bc",), two, three), (one, BOOK[1], three)):
            self.assertFalse(plain_paper(BOOK, "cabd", paper), paper)
            self.assertIs(paper_holds(BOOK, "cabd", paper), False, paper)

    def test_no_papers(self):
        one, two, three = (), ("bc", "ca"), ("ab", "bc", "ca")
        for value in ((), (one,), (one, two), (one, two, three, ()), [one, two, three], (one, three, two),
                      (two, one, three), (one, list(two), three), (list(one), two, three), (one, two, list(three)),
                      (one, ("ca", "bc"), three), (one, ("bc", "bc", "ca"), three), (one, ("bc",), three),
                      (one, ("ca",), three), (one, (), three), (one, ("bc", "bd", "ca", "da"), three),
                      (one, ("bc", "ca", "xx"), three), (one, ("bc", "ca", "da"), three), (one, two, ("bc", "ca")),
                      (one, {"bc": 1, "ca": 2}, three), (one, {"bc", "ca"}, three), (one, "bcca", three),
                      (None, two, three), (one, two, None), (one, (b"bc", b"ca"), three), (one, ("bc", None), three),
                      (one, (("bc",), ("ca",)), three), (one, ("bc", 3), three), (one, (["bc"],), three)):
            self.assertIs(paper_holds(BOOK, "cabd", value), False, value)

    def test_any_object_in_each_of_its_places(self):
        paper = sure_paper(BOOK, "cabd")
        for at in range(3):
            for item in odd_objects():
                value = paper[:at] + (item,) + paper[at + 1:]
                self.assertIs(paper_holds(BOOK, "cabd", value), False, value)
                value = paper[:at] + ((item,),) + paper[at + 1:]
                self.assertIs(paper_holds(BOOK, "cabd", value), False, value)

    def test_all_lots_in_each_place(self):
        books = [(BOOK, "cabd"), (BOOK, "abdab"), (LOOPED, "aaba"), (LOOPED, "baa"), (CYCLE, "bcab"),
                 ((3, ("aaa", "aab", "aba", "baa")), "abaa"), ((2, ("aa", "ab", "ba", "bb")), "ab")]
        for book, piece in books:
            paper = sure_paper(book, piece)
            self.assertTrue(plain_paper(book, piece, paper))
            lots = [lot for many in range(len(book[1]) + 1) for lot in combinations(book[1], many)]
            for at in range(len(paper)):
                for lot in lots:
                    value = paper[:at] + (lot,) + paper[at + 1:]
                    self.assertIs(paper_holds(book, piece, value), plain_paper(book, piece, value), (book, piece, value))

    def test_no_paper_holds_for_a_piece_that_is_not_sure(self):
        lots = [lot for many in range(6) for lot in combinations(BOOK[1], many)]
        held = [lot for lot in lots if paper_holds(BOOK, "cabc", ((), lot, ("ab", "bd", "da")))]
        self.assertEqual(held, [])
        lots = [lot for many in range(4) for lot in combinations(LOOPED[1], many)]
        for one in lots:
            self.assertIs(paper_holds(LOOPED, "bab", (one,)), False)
            self.assertIs(paper_holds(LOOPED, "aaa", (one,)), False)

    def test_lots_stand_by_j_and_then_by_i(self):
        paper = sure_paper(BOOK, "abcabdab")
        self.assertEqual(len(paper), 21)
        self.assertTrue(plain_paper(BOOK, "abcabdab", paper))
        self.assertIs(type(paper), tuple)
        self.assertEqual({type(lot) for lot in paper}, {tuple})


class LeavingTest(unittest.TestCase):
    def test_one_is_told_exactly_if_there_is_one(self):
        for book in list(small_books(2, "ab")) + [BOOK, (2, ("ab", "ac", "ba", "bc", "ca")), (3, ("aaa", "aab", "aba", "baa"))]:
            if has_ring(book):
                for piece in list(pieces(book, book[0] + 4))[::3]:
                    all_ways = plain_leavings(book, piece)
                    told = leaving(book, piece)
                    self.assertTrue(told in all_ways if all_ways else told is None, (book, piece, told))

    def test_its_kind(self):
        i, j, way = leaving(BOOK, "cabc")
        self.assertEqual((type(i), type(j), type(way)), (int, int, str))
        self.assertIs(type(leaving(BOOK, "cabc")), tuple)
        self.assertEqual(leaving(BOOK, "cabc"), (1, 2, "bda"))

if __name__ == "__main__":
    unittest.main()

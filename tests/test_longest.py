"""Point [12]: endless books, longer and longest sure pieces, plain pieces; fact L1."""

import random
import unittest

from tests.helper import BOOK, SMALL_LETTERS, pieces, plain_longest, plain_missable, plain_windows, small_books
from surepieces.books import has_ring, is_piece
from surepieces.errors import Endless, InvalidPiece
from surepieces.longest import is_endless, longer, longest, longest_with, plain_pieces
from surepieces.sure import is_sure

LOOPED = (2, ("aa", "ab", "ba"))
CYCLE = (2, ("ab", "bc", "ca"))
ENDLESS = [CYCLE, (2, ("aa",)), (6, ("aaaaaa",)), (3, ("aba", "bab")), (6, ("ababab", "bababa")),
           (3, ("aab", "aba", "baa")), (2, tuple(plain_windows(2, SMALL_LETTERS)))]


def plain_endless(book):
    """Whether no place has two windows that begin or two that end there; some ring text fits."""
    return all(len({window[part] for window in book[1]}) == len(book[1]) for part in (slice(-1), slice(1, None)))


def ringed(books):
    return [book for book in books if has_ring(book)]


def random_books(seed, number, letters="abcdef", size=2, length=9):
    """Books of random ring texts that are not endless."""
    rng = random.Random(seed)
    found = []
    while len(found) < number:
        ring = "".join(rng.choices(letters, k=rng.randint(2, length)))
        book = (size, tuple(plain_windows(size, ring)))
        if not plain_endless(book):
            found.append(book)
    return found


class IsEndlessTest(unittest.TestCase):
    def test_endless_books(self):
        for book in ENDLESS:
            self.assertIs(is_endless(book), True, book)

    def test_books_that_are_not(self):
        for book in (BOOK, LOOPED, (2, ("aa", "ab", "ba", "bb")), (2, ("ab", "ac", "ba", "ca")),
                     (3, ("aaa", "aab", "aba", "baa")), (2, ("ab", "ac", "ba", "bc", "ca"))):
            self.assertIs(is_endless(book), False, book)

    def test_small_books(self):
        for book in ringed(list(small_books(2, "abc")) + list(small_books(3, "ab"))):
            self.assertIs(is_endless(book), plain_endless(book), book)

    def test_each_piece_of_an_endless_book_is_sure(self):
        for book in ENDLESS:
            for piece in pieces(book, 14):
                self.assertTrue(is_sure(book, piece))


class LongerTest(unittest.TestCase):
    def test_longer(self):
        self.assertEqual(longer(BOOK, "cabd"), ["bcabd", "cabda"])
        self.assertEqual(longer(BOOK, "ab"), ["abc", "abd", "cab", "dab"])
        self.assertEqual(longer(BOOK, "bcabdab"), ["abcabdab"])
        self.assertEqual(longer(BOOK, "abcabda"), ["abcabdab"])
        self.assertEqual(longer(BOOK, "abcabdab"), [])

    def test_of_a_piece_that_is_not_sure(self):
        for piece in ("cabc", "dabd", "abcabc", "abcabdabc", "cabdabca"):
            self.assertFalse(is_sure(BOOK, piece))
            self.assertEqual(longer(BOOK, piece), [])
        self.assertEqual(longer(LOOPED, "aaa"), [])

    def test_of_endless_books(self):
        self.assertEqual(longer(CYCLE, "ab"), ["abc", "cab"])
        self.assertEqual(longer(CYCLE, "abcabcabcabc"), ["abcabcabcabca", "cabcabcabcabc"])
        self.assertEqual(longer((3, ("aba", "bab")), "abab"), ["ababa", "babab"])

    def test_ahead_and_behind_may_be_one(self):
        self.assertEqual(longer((2, ("aa",)), "aa"), ["aaa"])
        self.assertEqual(longer((6, ("aaaaaa",)), "aaaaaaaa"), ["aaaaaaaaa"])

    def test_all_pieces_of_small_books(self):
        books = ringed(list(small_books(2, "ab")) + random.Random(1).sample(list(small_books(2, "abc")), 50)
                       + random.Random(2).sample(list(small_books(3, "ab")), 40))
        for book in books:
            all_pieces = list(pieces(book, book[0] + 4))
            sure = [piece for piece in all_pieces if is_sure(book, piece)]
            for piece in all_pieces[::2]:
                if len(piece) < book[0] + 4:
                    own = [other for other in sure if len(other) == len(piece) + 1 and piece in (other[1:], other[:-1])]
                    own = own if piece in sure else []
                    self.assertEqual(longer(book, piece), own, (book, piece))


class LongestTest(unittest.TestCase):
    def hold(self, book):
        found = longest(book)
        self.assertEqual(found, plain_longest(book), book)
        for piece in found:
            self.assertEqual(longer(book, piece), [], (book, piece))
            self.assertTrue(is_sure(book, piece))
            self.assertFalse(plain_missable(book, [piece]))
        for window in book[1]:
            self.assertEqual(longest_with(book, window), [piece for piece in found if window in piece])
            self.assertTrue(longest_with(book, window), "each window is sure")

    def test_longest(self):
        self.assertEqual(longest(BOOK), ["abcabdab", "abdabcab"])
        self.assertEqual(longest(LOOPED), ["aaba", "abaa"])
        self.assertEqual(longest((2, ("aa", "ab", "ba", "bb"))), ["aab", "abb", "baa", "bba"])

    def test_longest_with(self):
        self.assertEqual(longest_with(BOOK, "bc"), ["abcabdab", "abdabcab"])
        book = (2, ("aa", "ab", "ba", "bb"))
        self.assertEqual(longest_with(book, "aa"), ["aab", "baa"])
        self.assertEqual(longest_with(book, "ab"), ["aab", "abb"])
        self.assertEqual(longest_with(book, "bb"), ["abb", "bba"])
        self.assertEqual(longest_with((2, ("ab", "ac", "ba", "bc", "ca")), "ac"), ["acab"])

    def test_all_books_with_windows_of_two_of_two_letters(self):
        for book in ringed(small_books(2, "ab")):
            if not plain_endless(book):
                self.hold(book)

    def test_many_books_with_windows_of_two_of_three_letters(self):
        books = [book for book in ringed(small_books(2, "abc")) if not plain_endless(book)]
        for book in random.Random(3).sample(books, 60):
            self.hold(book)

    def test_many_books_with_windows_of_three_of_two_letters(self):
        books = [book for book in ringed(small_books(3, "ab")) if not plain_endless(book)]
        for book in books:
            self.hold(book)

    def test_random_books(self):
        for book in random_books(4, 30) + random_books(5, 12, "abc", 3) + random_books(6, 8, "ab", 4, 12):
            self.hold(book)

    def test_each_longest_piece_in_which_a_window_stands_twice_is_told_once(self):
        found = longest_with(BOOK, "ab")
        self.assertEqual(found, ["abcabdab", "abdabcab"])
        self.assertEqual(found[0].count("ab"), 3)

    def test_endless_books(self):
        for book in ENDLESS:
            for function, args in ((longest, ()), (longest_with, (book[1][0],)), (plain_pieces, ())):
                with self.assertRaises(Endless) as caught:
                    function(book, *args)
                self.assertEqual(caught.exception.value, book)

    def test_endless_stands_ahead_of_invalid_piece(self):
        for window in ("xx", "", None, ["ab"], 3):
            self.assertRaises(Endless, longest_with, CYCLE, window)
            self.assertRaises(InvalidPiece, longest_with, BOOK, window)

    def test_a_piece_that_is_no_window(self):
        for window in ("abc", "ba", "a", "abcabdab"):
            self.assertRaises(InvalidPiece, longest_with, BOOK, window)


class PlainPiecesTest(unittest.TestCase):
    def plain(self, book, piece):
        """Whether one window alone begins and one alone ends at each inner place."""
        size, windows = book
        inner = [piece[at:at + size - 1] for at in range(1, len(piece) - size + 1)]
        return all([window[:-1] for window in windows].count(place) == 1
                   and [window[1:] for window in windows].count(place) == 1 for place in inner)

    def hold(self, book):
        found = plain_pieces(book)
        own = [piece for piece in pieces(book, len(book[1]) + book[0]) if self.plain(book, piece)]
        own = [piece for piece in own if not any(piece in other for other in own if len(other) > len(piece))]
        self.assertEqual(found, sorted(own), book)
        steps = [piece[at:at + book[0]] for piece in found for at in range(len(piece) - book[0] + 1)]
        self.assertEqual(sorted(steps), list(book[1]), "each window is a step of just one")
        for piece in found:
            self.assertTrue(is_piece(book, piece))
            self.assertTrue(any(piece in other for other in longest(book)), "L1")

    def test_plain_pieces(self):
        self.assertEqual(plain_pieces(BOOK), ["ab", "bca", "bda"])
        self.assertEqual(plain_pieces(LOOPED), ["aa", "aba"])
        self.assertEqual(plain_pieces((2, ("aa", "ab", "ba", "bb"))), ["aa", "ab", "ba", "bb"])
        self.assertEqual(plain_pieces((2, ("ab", "bc", "cd", "ce", "da", "ef", "fa"))), ["abc", "cda", "cefa"])

    def test_a_place_where_one_begins_and_several_end_or_the_other_way_round(self):
        self.assertEqual(plain_pieces((2, ("ab", "bc", "bd", "ca", "da"))), ["ab", "bca", "bda"])
        self.assertEqual(plain_pieces((3, ("abc", "abd", "bca", "bda", "cab", "dab"))), ["abcab", "abdab"])

    def test_small_books(self):
        for book in ringed(list(small_books(2, "ab")) + list(small_books(3, "ab"))):
            if not plain_endless(book):
                self.hold(book)
        books = [book for book in ringed(small_books(2, "abc")) if not plain_endless(book) and len(book[1]) < 7]
        for book in random.Random(7).sample(books, 60):
            self.hold(book)

    def test_random_books(self):
        for book in random_books(8, 40) + random_books(9, 15, "abcd", 3) + random_books(10, 10, "ab", 5, 12):
            self.hold(book)


if __name__ == "__main__":
    unittest.main()

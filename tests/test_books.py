"""Points [4], [5], [6] and [10]: books, ring texts, pieces, places, windows, fitting, standing in, least turns."""

import unittest
from itertools import product

from tests.helper import BOOK, NO_RING, SMALL_LETTERS, faulty_books, odd_objects, pieces
from tests.helper import plain_places, plain_stands, plain_windows, small_books
from surepieces.books import fits, is_book, is_piece, is_ring, least_turn, places, ring_windows, stands_in, windows_of


def many_windows(size, number):
    """So many windows of a size, ascending."""
    found = []
    for row in product(SMALL_LETTERS, repeat=size):
        if len(found) == number:
            break
        found.append("".join(row))
    return tuple(found)


class IsBookTest(unittest.TestCase):
    def test_books(self):
        for book in (BOOK, NO_RING, (2, ("aa",)), (2, ("az", "za", "zz")), (3, ("abc", "abd")), (4, ("abcd",)),
                     (5, ("abcde", "bcdea")), (6, ("abcdef", "abcdeg"))):
            self.assertIs(is_book(book), True, book)

    def test_no_books(self):
        for value in faulty_books():
            self.assertIs(is_book(value), False, value)

    def test_each_size(self):
        for size in range(-1, 10):
            self.assertIs(is_book((size, ("a" * max(size, 0),))), 2 <= size <= 6)

    def test_each_window_is_looked_at(self):
        windows = many_windows(3, 30)
        self.assertIs(is_book((3, windows)), True)
        for at in range(30):
            for other in ("aa", "aaaa", "AAA", "a a", 3, None, b"aaa", ["aaa"], windows[at - 1]):
                self.assertIs(is_book((3, windows[:at] + (other,) + windows[at + 1:])), False, other)

    def test_letters_from_a_to_z_alone(self):
        for number in range(128):
            self.assertIs(is_book((2, ("a" + chr(number),))), chr(number) in SMALL_LETTERS)
            self.assertIs(is_ring(chr(number)), chr(number) in SMALL_LETTERS)

    def test_the_bounds_are_not_looked_at(self):
        self.assertIs(is_book((3, many_windows(3, 41))), True)
        self.assertIs(is_book((4, many_windows(4, 5000))), True)
        self.assertIs(is_ring("ab" * 1001), True)
        self.assertIs(is_ring("ab" * 50000), True)
        self.assertIs(is_ring("ab" * 50000 + " "), False)
        self.assertIs(is_piece(BOOK, "abc" * 50 + "a"), True)
        self.assertIs(is_piece(BOOK, "abc" * 20000 + "a"), True)
        self.assertIs(is_piece(BOOK, "abc" * 20000 + "c"), False)

    def test_what_rests_on_them_does_not_look_at_the_bounds(self):
        big = (4, many_windows(4, 500))
        self.assertEqual(places(big), plain_places(big))
        self.assertIs(fits(BOOK, "abcabd" * 1000), True)
        self.assertIs(stands_in("abcabd" * 1000, "abdabc" * 1000 + "abd"), True)
        self.assertEqual(least_turn("b" * 3000 + "a"), "a" + "b" * 3000)
        self.assertEqual(ring_windows(2, "ab" * 3000), ["ab", "ba"])


class IsRingTest(unittest.TestCase):
    def test_ring_texts(self):
        for value in ("a", "z", "aa", "abcabd", "zyx", SMALL_LETTERS):
            self.assertIs(is_ring(value), True)

    def test_no_ring_texts(self):
        for value in odd_objects() + ["Ab", "aB", " a", "a ", "ab\ncd", ("a",), ["a"]]:
            self.assertIs(is_ring(value), False, value)


class IsPieceTest(unittest.TestCase):
    def test_pieces(self):
        for value in ("ab", "bc", "da", "abc", "abcabdab", "dabdabdabc", "abcabcabcabcabc"):
            self.assertIs(is_piece(BOOK, value), True, value)

    def test_no_pieces(self):
        for value in odd_objects() + ["a", "ba", "ac", "abx", "xab", "abcb", "abcabdb", ("ab",), ["ab"], {"ab"}]:
            self.assertIs(is_piece(BOOK, value), False, value)

    def test_of_books_that_no_ring_text_fits(self):
        self.assertIs(is_piece(NO_RING, "abbbb"), True)
        self.assertIs(is_piece(NO_RING, "ba"), False)

    def test_each_length_of_windows(self):
        for size in range(2, 7):
            book = (size, tuple(plain_windows(size, "aabab")))
            for length in range(1, 12):
                text = ("aabab" * 3)[1:][:length]
                self.assertIs(is_piece(book, text), length >= size)
                self.assertIs(is_piece(book, text + "bb"), False)

    def test_all_short_texts(self):
        for book in (BOOK, (3, ("aab", "aba", "baa")), (2, ("aa",))):
            own = set(pieces(book, 5))
            for length in range(1, 6):
                for row in product("abcd", repeat=length):
                    self.assertIs(is_piece(book, "".join(row)), "".join(row) in own)


class PlacesTest(unittest.TestCase):
    def test_places(self):
        self.assertEqual(places(BOOK), ["a", "b", "c", "d"])
        self.assertEqual(places((3, ("abc", "abd"))), ["ab", "bc", "bd"])
        self.assertEqual(places((6, ("zabcde",))), ["abcde", "zabcd"])

    def test_of_one_window(self):
        self.assertEqual(places((2, ("ba",))), ["a", "b"])
        self.assertEqual(places((2, ("aa",))), ["a"])
        self.assertEqual(places((4, ("bbbb",))), ["bbb"])

    def test_of_many_books(self):
        for book in list(small_books(2, "abc")) + list(small_books(3, "ab")):
            self.assertEqual(places(book), plain_places(book))


class WindowsTest(unittest.TestCase):
    def test_windows_of_a_text(self):
        self.assertEqual(windows_of(2, "abcab"), ["ab", "bc", "ca"])
        self.assertEqual(windows_of(3, "zzzaz"), ["zaz", "zza", "zzz"])
        self.assertEqual(windows_of(6, "abcdefg"), ["abcdef", "bcdefg"])

    def test_a_text_is_not_read_round(self):
        self.assertEqual(windows_of(2, "ab"), ["ab"])
        self.assertEqual(windows_of(3, "abc"), ["abc"])

    def test_short_texts(self):
        for size in range(2, 7):
            for length in range(size):
                self.assertEqual(windows_of(size, "a" * length), [])

    def test_windows_of_ring_texts(self):
        self.assertEqual(ring_windows(2, "abcabd"), ["ab", "bc", "bd", "ca", "da"])
        self.assertEqual(ring_windows(3, "abcd"), ["abc", "bcd", "cda", "dab"])

    def test_ring_texts_shorter_than_windows(self):
        self.assertEqual(ring_windows(2, "a"), ["aa"])
        self.assertEqual(ring_windows(6, "a"), ["aaaaaa"])
        self.assertEqual(ring_windows(6, "ab"), ["ababab", "bababa"])
        self.assertEqual(ring_windows(5, "abc"), ["abcab", "bcabc", "cabca"])
        self.assertEqual(ring_windows(6, "abcde"), ["abcdea", "bcdeab", "cdeabc", "deabcd", "eabcde"])

    def test_all_short_ring_texts(self):
        for size in range(2, 7):
            for length in range(1, 8):
                for row in product("ab", repeat=length):
                    self.assertEqual(ring_windows(size, "".join(row)), plain_windows(size, "".join(row)))


class FitsTest(unittest.TestCase):
    def test_fits(self):
        for ring in ("abcabd", "bcabda", "abdabc", "abcabcabd", "abcabdabd"):
            self.assertIs(fits(BOOK, ring), True)

    def test_does_not_fit(self):
        for ring in ("abc", "abd", "a", "abcabdx", "abcabdb", "abcdab", "zzz"):
            self.assertIs(fits(BOOK, ring), False, ring)

    def test_short_ring_texts(self):
        self.assertIs(fits((2, ("aa",)), "a"), True)
        self.assertIs(fits((6, ("aaaaaa",)), "a"), True)
        self.assertIs(fits((6, ("aaaaaa",)), "aaaaaaaaaaa"), True)
        self.assertIs(fits((6, ("ababab", "bababa")), "ba"), True)
        self.assertIs(fits((2, ("ab",)), "ab"), False)
        self.assertIs(fits((2, ("ab",)), "a"), False)

    def test_books_that_none_fits(self):
        for ring in ("abb", "b", "ab", "bba"):
            self.assertIs(fits(NO_RING, ring), False)


class StandsInTest(unittest.TestCase):
    def test_stands(self):
        for piece in ("a", "d", "ab", "da", "dabc", "abcabd", "dabcab", "dabcabda", "abcabdabcabdabcabdabca"):
            self.assertIs(stands_in("abcabd", piece), True, piece)

    def test_does_not_stand(self):
        for piece in ("e", "ac", "abcabc", "abdabd", "abcabdabd", "abcabdabcabdabcabdabcc", "zzzzzzzzzzzzzz"):
            self.assertIs(stands_in("abcabd", piece), False, piece)

    def test_short_ring_texts(self):
        self.assertIs(stands_in("a", "a"), True)
        self.assertIs(stands_in("a", "aaaaaaa"), True)
        self.assertIs(stands_in("a", "aaaaaab"), False)
        self.assertIs(stands_in("ab", "babab"), True)
        self.assertIs(stands_in("ab", "baba" * 20 + "a"), False)

    def test_all_short_texts(self):
        texts = ["".join(row) for length in range(1, 8) for row in product("ab", repeat=length)]
        for ring in texts[:62]:
            for piece in texts:
                self.assertIs(stands_in(ring, piece), plain_stands(ring, piece))


class LeastTurnTest(unittest.TestCase):
    def test_least_turn(self):
        self.assertEqual(least_turn("cabdab"), "abcabd")
        self.assertEqual(least_turn("a"), "a")
        self.assertEqual(least_turn("ba"), "ab")
        self.assertEqual(least_turn("zzz"), "zzz")
        self.assertEqual(least_turn("abab"), "abab")

    def test_it_is_as_long_as_the_ring_text(self):
        self.assertEqual(least_turn("bababa"), "ababab")

    def test_all_short_ring_texts(self):
        rings = [row for length in range(1, 10) for row in product("ab", repeat=length)]
        rings += [row for length in range(1, 7) for row in product("abc", repeat=length)]
        for row in rings:
            ring = "".join(row)
            self.assertEqual(least_turn(ring), min(ring[at:] + ring[:at] for at in range(len(ring))))


if __name__ == "__main__":
    unittest.main()

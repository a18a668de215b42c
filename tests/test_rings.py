"""Point [10]: ways between windows, ring texts that fit, closed lots; fact B1."""

import random
import unittest
from itertools import chain, combinations

from tests.helper import BOOK, NO_RING, odd_objects, pieces, plain_closed_lot, plain_fits, plain_places, plain_rings
from tests.helper import plain_windows, small_books
from surepieces.books import closed_lot, fits, has_ring, is_closed_lot, is_piece, ring_windows, some_ring, way


def plain_way(book, one, other, longest):
    """The first of the shortest pieces from a window to another one, among all pieces up to a length."""
    for piece in pieces(book, longest):
        if piece.startswith(one) and piece.endswith(other):
            return piece
    return None


class WayTest(unittest.TestCase):
    def test_way(self):
        self.assertEqual(way(BOOK, "bc", "da"), "bcabda")
        self.assertEqual(way(BOOK, "ab", "bc"), "abc")
        self.assertEqual(way(BOOK, "bd", "ca"), "bdabca")

    def test_of_a_window_and_itself(self):
        for window in BOOK[1]:
            self.assertEqual(way(BOOK, window, window), window)
        self.assertEqual(way((2, ("aa",)), "aa", "aa"), "aa")
        self.assertEqual(way((2, ("ab",)), "ab", "ab"), "ab")

    def test_none(self):
        self.assertIsNone(way(NO_RING, "bb", "ab"))
        self.assertIsNone(way((2, ("ab", "cd")), "ab", "cd"))
        self.assertEqual(way(NO_RING, "ab", "bb"), "abb")

    def test_the_first_of_several_as_texts_compare(self):
        book = (2, ("ac", "ad", "be", "cb", "db", "ea"))
        self.assertEqual(way(book, "ea", "be"), "eacbe")
        book = (2, ("ab", "ac", "bd", "be", "cd", "ce", "df", "ef", "fa"))
        self.assertEqual(way(book, "fa", "fa"), "fa")
        self.assertEqual(way(book, "ab", "fa"), "abdfa")
        self.assertEqual(way(book, "fa", "ef"), "fabef")

    def test_of_small_books(self):
        rng = random.Random(3)
        books = rng.sample(list(small_books(2, "abc")), 40) + rng.sample(list(small_books(3, "ab")), 40)
        for book in books:
            for one in book[1]:
                for other in book[1]:
                    found = way(book, one, other)
                    self.assertEqual(found, plain_way(book, one, other, 9), (book, one, other))
                    self.assertTrue(found is None or is_piece(book, found))

    def test_of_longer_windows(self):
        for size in (4, 5, 6):
            ring = "aabbabaaab"
            book = (size, tuple(plain_windows(size, ring)))
            for other in book[1]:
                self.assertEqual(way(book, book[1][0], other), plain_way(book, book[1][0], other, size + 10))


class RingsTest(unittest.TestCase):
    def test_has_ring(self):
        for book in (BOOK, (2, ("aa",)), (6, ("aaaaaa",)), (2, ("ab", "ba")), (3, ("aba", "bab"))):
            self.assertIs(has_ring(book), True)
            self.assertTrue(plain_fits(book, some_ring(book)))
            self.assertTrue(fits(book, some_ring(book)))
            self.assertIsNone(closed_lot(book))

    def test_has_none(self):
        for book in (NO_RING, (2, ("ab",)), (3, ("aab",)), (2, ("aa", "bb")), (2, ("ab", "ba", "cd", "dc")),
                     (2, ("aa", "ab")), (2, ("ba", "bb")), (2, ("ab", "ba", "bc", "cd", "dc"))):
            self.assertIs(has_ring(book), False)
            self.assertIsNone(some_ring(book))
            self.assertTrue(plain_closed_lot(book, closed_lot(book)))
            self.assertIs(is_closed_lot(book, closed_lot(book)), True)

    def test_closed_lots_that_books_have_alone(self):
        self.assertEqual(closed_lot(NO_RING), ("b",))
        self.assertEqual(closed_lot((2, ("ab",))), ("b",))
        self.assertEqual(closed_lot((2, ("ba", "bb"))), ("a",))
        self.assertEqual(closed_lot((3, ("aba", "bab", "bba"))), ("ab", "ba"))


class IsClosedLotTest(unittest.TestCase):
    def test_is_closed_lot(self):
        book = (2, ("ab", "ba", "bc", "cd", "dc"))
        self.assertIs(is_closed_lot(book, ("c", "d")), True)
        self.assertIs(is_closed_lot((2, ("ab",)), ("b",)), True)
        self.assertIs(is_closed_lot((2, ("aa", "bb")), ("a",)), True)
        self.assertIs(is_closed_lot((2, ("aa", "bb")), ("b",)), True)
        self.assertIs(is_closed_lot((3, ("aab",)), ("ab",)), True)

    def test_is_none(self):
        book = (2, ("ab", "ba", "bc", "cd", "dc"))
        for value in ((), ("d", "c"), ["c", "d"], ("c", "c", "d"), ("c",), ("d",), ("a", "b", "c", "d"), ("a", "b"),
                      ("c", "d", "e"), ("b", "c", "d"), ("cd", "dc"), "cd", {"c": 1, "d": 2}, {"c", "d"}, ("c", b"d"),
                      ("c", ["d"]), (1, 2), (None,), ("c", "d", None), (("c",), ("d",)), b"cd", ("", "c", "d")):
            self.assertIs(is_closed_lot(book, value), False, value)
        self.assertIs(is_closed_lot((2, ("aa",)), ("a",)), False)
        self.assertIs(is_closed_lot((2, ("aa",)), ()), False)
        for value in odd_objects():
            self.assertIs(is_closed_lot(NO_RING, value), False)

    def test_all_lots_of_small_books(self):
        rng = random.Random(4)
        for book in list(small_books(2, "ab")) + rng.sample(list(small_books(2, "abcd")), 60):
            spots = plain_places(book)
            lots = chain.from_iterable(combinations(spots + ["z"], many) for many in range(len(spots) + 2))
            for lot in lots:
                self.assertIs(is_closed_lot(book, lot), plain_closed_lot(book, lot), (book, lot))


class FactB1Test(unittest.TestCase):
    def hold(self, book):
        ring, lot = some_ring(book), closed_lot(book)
        self.assertNotEqual(ring is None, lot is None, book)
        self.assertIs(has_ring(book), ring is not None)
        if ring is not None:
            self.assertTrue(fits(book, ring) and plain_fits(book, ring), (book, ring))
        else:
            self.assertIs(type(lot), tuple)
            self.assertTrue(is_closed_lot(book, lot) and plain_closed_lot(book, lot), (book, lot))

    def test_small_books(self):
        for book in chain(small_books(2, "ab"), small_books(3, "ab"), small_books(2, "abc")):
            self.hold(book)

    def test_random_books(self):
        rng = random.Random(1)
        for size, letters in ((2, "abcd"), (3, "abc"), (4, "ab"), (5, "ab"), (6, "ab")):
            windows = ["".join(row) for row in set(zip(*[rng.choices(letters, k=200) for _ in range(size)]))]
            for _ in range(60):
                self.hold((size, tuple(sorted(rng.sample(windows, rng.randint(1, min(12, len(windows))))))))
                self.hold((size, tuple(ring_windows(size, "".join(rng.choices(letters, k=rng.randint(1, 30)))))))

    def test_books_of_all_short_ring_texts_have_one(self):
        for size, letters, longest in ((2, "abc", 6), (3, "ab", 9), (4, "ab", 8), (6, "ab", 7)):
            for windows in plain_rings(size, letters, longest):
                self.hold((size, windows))
                self.assertIs(has_ring((size, windows)), True)


if __name__ == "__main__":
    unittest.main()

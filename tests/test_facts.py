"""Facts S1, S2 and S3 and the guarantees, over many small books (fact B1: test_rings.py)."""

import random
import unittest

from tests.helper import BOOK, pieces, plain_fits, plain_leaving, plain_leavings, plain_paper, plain_rings
from tests.helper import plain_stands, plain_windows, random_piece, small_books
from surepieces.books import fits, has_ring, stands_in
from surepieces.sure import is_leaving, is_sure, leaving, paper_holds, sure_paper, without


class FactsTest(unittest.TestCase):
    def hold(self, book, piece):
        """Exactly one of a paper and a leaving is told, the leaving with a ring text; each is what it should be."""
        told, paper, ring = leaving(book, piece), sure_paper(book, piece), without(book, piece)
        sure = is_sure(book, piece)
        self.assertEqual([sure, sure, sure], [told is None, paper is not None, ring is None], (book, piece))
        if sure:
            self.assertTrue(paper_holds(book, piece, paper), (book, piece, paper))
            self.assertTrue(plain_paper(book, piece, paper), (book, piece, paper))
            return True
        self.assertTrue(is_leaving(book, piece, told), (book, piece, told))
        self.assertTrue(plain_leaving(book, piece, told), (book, piece, told))
        self.assertTrue(fits(book, ring) and plain_fits(book, ring), (book, piece, ring))
        self.assertFalse(stands_in(ring, piece) or plain_stands(ring, piece), (book, piece, ring))
        return False

    def hold_all(self, book, longest):
        sure = {}
        for piece in pieces(book, longest):
            sure[piece] = self.hold(book, piece)
            for part in (piece[1:], piece[:-1]):
                self.assertTrue(sure.get(part, True) or not sure[piece], "S3: " + part + " in " + piece)
        return sure

    def test_all_books_with_windows_of_two_of_two_letters(self):
        for book in small_books(2, "ab"):
            if has_ring(book):
                self.hold_all(book, 9)

    def test_all_books_with_windows_of_three_of_two_letters(self):
        for book in small_books(3, "ab"):
            if has_ring(book):
                self.hold_all(book, 8)

    def test_many_books_with_windows_of_two_of_three_letters(self):
        books = [book for book in small_books(2, "abc") if has_ring(book)]
        for book in random.Random(7).sample(books, 60):
            self.hold_all(book, 6)

    def test_random_books_and_long_pieces(self):
        rng = random.Random(8)
        for size, letters in ((2, "abcdef"), (3, "abcd"), (4, "abc"), (5, "ab"), (6, "ab")):
            for _ in range(40):
                ring = "".join(rng.choices(letters, k=rng.randint(1, 14)))
                book = (size, tuple(plain_windows(size, ring)))
                for steps in (2, 3, 5, 8, 13, 30):
                    self.hold(book, random_piece(rng, book, steps))

    def test_random_books_with_few_branches(self):
        rng = random.Random(9)
        sure = 0
        for _ in range(60):
            ring = "".join(rng.sample("abcdefghijkl", 9)) + rng.choice("abcdefghijkl")
            book = (2, tuple(plain_windows(2, ring)))
            for start in range(len(ring)):
                for length in (3, 6, 10, 14, 25):
                    sure += self.hold(book, (ring * 4)[start:][:length])
        self.assertGreater(sure, 200)

    def test_sure_is_what_stands_in_all_ring_texts_that_fit(self):
        for size, letters, longest in ((2, "ab", 10), (3, "ab", 11), (2, "abc", 7)):
            rings = plain_rings(size, letters, longest)
            for windows in random.Random(2).sample(sorted(rings), min(30, len(rings))):
                for piece in list(pieces((size, windows), size + 4))[:150]:
                    if is_sure((size, windows), piece):
                        for ring in rings[windows]:
                            self.assertTrue(plain_stands(ring, piece), (windows, piece, ring))
                    else:
                        self.assertFalse(plain_stands(without((size, windows), piece), piece))

    def test_no_leaving_among_all_ways_of_a_sure_piece(self):
        for book in [BOOK] + [book for book in small_books(2, "ab") if has_ring(book)]:
            for piece in pieces(book, 7):
                if is_sure(book, piece):
                    self.assertEqual(plain_leavings(book, piece), [], (book, piece))

    def test_each_piece_within_a_sure_one_is_sure(self):
        for piece in ("abcabdab", "abdabcab"):
            for start in range(len(piece)):
                for end in range(start + 2, len(piece) + 1):
                    self.assertTrue(is_sure(BOOK, piece[start:end]))


if __name__ == "__main__":
    unittest.main()

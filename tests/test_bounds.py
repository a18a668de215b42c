"""Point [6]: inputs at the bounds, and somewhat beyond them, are answered, and soon."""

import random
import time
import unittest

from tests.helper import SMALL_LETTERS, plain_closed_lot, plain_leaving, plain_paper, plain_windows, random_piece
from surepieces.books import closed_lot, fits, has_ring, is_closed_lot, is_piece, least_turn, places, ring_windows
from surepieces.books import some_ring, stands_in, way, windows_of
from surepieces.sure import is_leaving, is_sure, leaving, paper_holds, sure_paper, without

# A call takes milliseconds; this only tells a slow machine from a search without an end.
SOON = 20


def ringed(size, letters, number, seed):
    """A book of at most so many windows, and not many fewer, that some ring text fits."""
    rng = random.Random(seed)
    while True:
        ring = "".join(rng.choices(letters, k=rng.randint(number // 2, 2 * number)))
        windows = plain_windows(size, ring)
        if number - 6 <= len(windows) <= number:
            return (size, tuple(windows))


def cycle(size, length):
    """A book of a ring text of so many letters in which no window stands twice."""
    ring = (SMALL_LETTERS + "zyxwvutsrqponmlk")[:length]
    return (size, tuple(plain_windows(size, ring))), ring


def books_at_the_bounds():
    hub = [letter + "a" for letter in "bcdefghijklmnopqrstu"] + ["a" + letter for letter in "bcdefghijklmnopqrstu"]
    yield (2, tuple(sorted(hub)))
    yield (2, tuple(one + other for one in "abcdef" for other in "abcdef"))
    yield (2, tuple(plain_windows(2, SMALL_LETTERS + "acegikmoqsuwy")))
    for size in range(2, 7):
        yield ringed(size, "abcdefgh"[:9 - size] if size < 6 else "abc", 40, size)
    for size in range(3, 7):
        yield cycle(size, 40)[0]


class BoundsTest(unittest.TestCase):
    def setUp(self):
        self.begun = time.monotonic()

    def tearDown(self):
        self.assertLess(time.monotonic() - self.begun, SOON)

    def hold(self, book, piece):
        told, ring = leaving(book, piece), without(book, piece)
        self.assertEqual([is_sure(book, piece), ring is None], [told is None] * 2)
        paper = sure_paper(book, piece)
        if told is None:
            self.assertTrue(paper_holds(book, piece, paper))
            self.assertTrue(plain_paper(book, piece, paper))
        else:
            self.assertIsNone(paper)
            self.assertTrue(is_leaving(book, piece, told) and plain_leaving(book, piece, told))
            self.assertTrue(fits(book, ring))
            self.assertFalse(stands_in(ring, piece))

    def test_books_of_forty_windows(self):
        for book in books_at_the_bounds():
            self.assertLessEqual(len(book[1]), 40)
            self.assertGreater(len(book[1]), 33)
            self.assertTrue(has_ring(book))
            self.assertIsNone(closed_lot(book))
            self.assertTrue(fits(book, some_ring(book)))
            self.assertEqual(len(places(book)), len({window[:-1] for window in book[1]}))
            for other in book[1]:
                found = way(book, book[1][0], other)
                self.assertTrue(is_piece(book, found) and found.endswith(other))

    def test_forty_windows_that_no_ring_text_fits(self):
        for size in range(3, 7):
            book = (size, cycle(size, 40)[0][1][:-1])
            apart = (size, tuple(sorted("a" * (size - 1) + letter for letter in SMALL_LETTERS)))
            chain = (2, tuple(SMALL_LETTERS[at:at + 2] for at in range(25)))
            for lost in (book, apart, chain):
                self.assertFalse(has_ring(lost))
                self.assertIsNone(some_ring(lost))
                self.assertTrue(is_closed_lot(lost, closed_lot(lost)))
                self.assertTrue(plain_closed_lot(lost, closed_lot(lost)))

    def test_pieces_of_sixty_and_a_hundred_and_twenty_letters(self):
        rng = random.Random(6)
        for book in books_at_the_bounds():
            for length in (60, 120, 150):
                self.hold(book, random_piece(rng, book, length - book[0] + 1))

    def test_a_long_sure_piece(self):
        for size in (3, 6):
            book, ring = cycle(size, 40)
            piece = (ring * 4)[:120]
            self.hold(book, piece)
            self.assertTrue(is_sure(book, piece))
            self.assertEqual(len(sure_paper(book, piece)), (120 - size) * (121 - size) // 2)

    def test_a_long_sure_piece_of_a_book_that_is_not_endless(self):
        book = (2, tuple(sorted(plain_windows(2, SMALL_LETTERS) + ["zb"])))
        piece = "b" + SMALL_LETTERS[2:] + "b" + SMALL_LETTERS[2:]
        for text in (SMALL_LETTERS, SMALL_LETTERS[1:] + "b", piece, SMALL_LETTERS * 4 + "abcdefghijklmnop"):
            self.hold(book, text)
        self.assertTrue(is_sure(book, SMALL_LETTERS))

    def test_papers_of_all_windows(self):
        book, ring = cycle(6, 40)
        pairs = 114 * 115 // 2
        self.assertTrue(paper_holds(book, (ring * 4)[:120], (book[1],) * pairs))
        self.assertFalse(paper_holds(book, (ring * 4)[:120], (book[1],) * (pairs - 1)))

    def test_long_ring_texts(self):
        rng = random.Random(5)
        for letters in ("ab", "abc", SMALL_LETTERS):
            ring = "".join(rng.choices(letters, k=2000))
            for size in range(2, 7):
                self.assertEqual(ring_windows(size, ring), plain_windows(size, ring))
            self.assertEqual(least_turn(ring), min(ring[at:] + ring[:at] for at in range(2000)))
            self.assertTrue(stands_in(ring, ring[1990:] + ring[:50]))
            self.assertTrue(stands_in(ring, ring * 2 + ring[:7]))
        self.assertEqual(windows_of(3, "ab" * 1000), ["aba", "bab"])

    def test_ring_texts_of_few_turns(self):
        self.assertEqual(least_turn("b" + "a" * 1999), "a" * 1999 + "b")
        self.assertEqual(least_turn("ba" * 1000), "ab" * 1000)
        self.assertTrue(stands_in("a" * 1999 + "b", "a" * 1999))
        self.assertFalse(stands_in("a" * 1999 + "b", "a" * 2000))
        self.assertTrue(fits((2, ("aa", "ab", "ba")), "a" * 1999 + "b"))


if __name__ == "__main__":
    unittest.main()

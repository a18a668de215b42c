"""Points [6] and [10] to [31]: inputs at the bounds, and somewhat beyond them, are answered, and soon."""

import random
import unittest

from tests.helper import SMALL_LETTERS, SoonTest, books_at_the_bounds, cycle, plain_balance, plain_bar
from tests.helper import plain_closed_lot, plain_counts, plain_leaving, plain_paper, plain_stands, plain_windows
from tests.helper import plain_within, random_piece
from surepieces.books import closed_lot, fits, has_ring, is_closed_lot, is_piece, least_turn, places, ring_windows
from surepieces.books import some_ring, stands_in, way, windows_of
from surepieces.counts import balance, bar, bar_holds, counts_between, counts_of, least_of, most_of, ring_of
from surepieces.longest import is_endless, longer, longest, longest_with, plain_pieces
from surepieces.several import fewest, needed, one_is_sure, without_all
from surepieces.sure import is_leaving, is_sure, leaving, paper_holds, sure_paper, without

def chorded(length, window):
    """A book of windows of three letters: those of a long round, and one more that passes by some places of it."""
    return (3, tuple(sorted(cycle(3, length)[0][1] + (window,))))


class BoundsTest(SoonTest):
    def hold(self, book, piece):
        told, ring = leaving(book, piece), without(book, piece)
        self.assertEqual([is_sure(book, piece), ring is None], [told is None] * 2)
        paper = sure_paper(book, piece)
        if told is None:
            self.assertTrue(paper_holds(book, piece, paper))
            self.assertTrue(plain_paper(book, piece, paper))
        else:
            self.assertIsNone(paper)
            self.assertTrue(is_leaving(book, piece, told) and plain_leaving(book, piece, told))
            self.assertTrue(fits(book, ring))
            self.assertFalse(stands_in(ring, piece))

    def test_books_of_forty_windows(self):
        for book in books_at_the_bounds():
            self.assertLessEqual(len(book[1]), 40)
            self.assertGreater(len(book[1]), 33)
            self.assertTrue(has_ring(book))
            self.assertIsNone(closed_lot(book))
            self.assertTrue(fits(book, some_ring(book)))
            self.assertEqual(len(places(book)), len({window[:-1] for window in book[1]}))
            for other in book[1]:
                found = way(book, book[1][0], other)
                self.assertTrue(is_piece(book, found) and found.endswith(other))

    def test_forty_windows_that_no_ring_text_fits(self):
        for size in range(3, 7):
            book = (size, cycle(size, 40)[0][1][:-1])
            apart = (size, tuple(sorted("a" * (size - 1) + letter for letter in SMALL_LETTERS)))
            chain = (2, tuple(SMALL_LETTERS[at:at + 2] for at in range(25)))
            for lost in (book, apart, chain):
                self.assertFalse(has_ring(lost))
                self.assertIsNone(some_ring(lost))
                self.assertTrue(is_closed_lot(lost, closed_lot(lost)))
                self.assertTrue(plain_closed_lot(lost, closed_lot(lost)))

    def test_pieces_of_sixty_and_a_hundred_and_twenty_letters(self):
        rng = random.Random(6)
        for book in books_at_the_bounds():
            for length in (60, 120, 150):
                self.hold(book, random_piece(rng, book, length - book[0] + 1))

    def test_a_long_sure_piece(self):
        for size in (3, 6):
            book, ring = cycle(size, 40)
            piece = (ring * 4)[:120]
            self.hold(book, piece)
            self.assertTrue(is_sure(book, piece))
            self.assertEqual(len(sure_paper(book, piece)), (120 - size) * (121 - size) // 2)

    def test_a_long_sure_piece_of_a_book_that_is_not_endless(self):
        book = (2, tuple(sorted(plain_windows(2, SMALL_LETTERS) + ["zb"])))
        piece = "b" + SMALL_LETTERS[2:] + "b" + SMALL_LETTERS[2:]
        for text in (SMALL_LETTERS, SMALL_LETTERS[1:] + "b", piece, SMALL_LETTERS * 4 + "abcdefghijklmnop"):
            self.hold(book, text)
        self.assertTrue(is_sure(book, SMALL_LETTERS))

    def test_papers_of_all_windows(self):
        book, ring = cycle(6, 40)
        pairs = 114 * 115 // 2
        self.assertTrue(paper_holds(book, (ring * 4)[:120], (book[1],) * pairs))
        self.assertFalse(paper_holds(book, (ring * 4)[:120], (book[1],) * (pairs - 1)))

    def test_long_ring_texts(self):
        rng = random.Random(5)
        for letters in ("ab", "abc", SMALL_LETTERS):
            ring = "".join(rng.choices(letters, k=2000))
            for size in range(2, 7):
                self.assertEqual(ring_windows(size, ring), plain_windows(size, ring))
            self.assertEqual(least_turn(ring), min(ring[at:] + ring[:at] for at in range(2000)))
            self.assertTrue(stands_in(ring, ring[1990:] + ring[:50]))
            self.assertTrue(stands_in(ring, ring * 2 + ring[:7]))
        self.assertEqual(windows_of(3, "ab" * 1000), ["aba", "bab"])

    def test_ring_texts_of_few_turns(self):
        self.assertEqual(least_turn("b" + "a" * 1999), "a" * 1999 + "b")
        self.assertEqual(least_turn("ba" * 1000), "ab" * 1000)
        self.assertTrue(stands_in("a" * 1999 + "b", "a" * 1999))
        self.assertFalse(stands_in("a" * 1999 + "b", "a" * 2000))
        self.assertTrue(fits((2, ("aa", "ab", "ba")), "a" * 1999 + "b"))


class LongestBoundsTest(SoonTest):
    def hold(self, book):
        found = longest(book)
        for piece in found[:3] + found[-3:]:
            self.assertTrue(is_sure(book, piece))
            self.assertEqual(longer(book, piece), [])
            for part in (piece[1:], piece[:-1]):
                self.assertTrue(len(part) < book[0] or piece in longer(book, part))
        plain = plain_pieces(book)
        steps = [piece[at:at + book[0]] for piece in plain for at in range(len(piece) - book[0] + 1)]
        self.assertEqual(sorted(steps), list(book[1]))
        self.assertTrue(all(any(piece in other for other in found) for piece in plain), "L1")
        for window in book[1][::7]:
            self.assertEqual(longest_with(book, window), [piece for piece in found if window in piece])
        return max(len(piece) for piece in found)

    def test_books_of_forty_windows(self):
        told = 0
        for book in books_at_the_bounds():
            if not is_endless(book):
                self.hold(book)
                told += 1
        self.assertGreater(told, 6)

    def test_longest_pieces_of_about_a_hundred_and_twenty_letters(self):
        for length, window, least in ((39, "yzy", 110), (38, "yzy", 110), (39, "wxw", 90), (42, "yzy", 121)):
            book = chorded(length, window)
            self.assertEqual(len(book[1]), length + 1)
            self.assertGreaterEqual(self.hold(book), least)

    def test_longer_of_pieces_of_a_hundred_and_twenty_letters(self):
        for size in (3, 6):
            book, ring = cycle(size, 40)
            piece = (ring * 4)[:120]
            self.assertEqual(longer(book, piece), sorted([ring[-1] + piece, piece + ring[0]]))
        rng = random.Random(9)
        for book in books_at_the_bounds():
            piece = random_piece(rng, book, 121 - book[0])
            if not is_endless(book):
                self.assertEqual(longer(book, piece), [])
        book = chorded(39, "yzy")
        for piece in longest(book):
            self.assertEqual(longer(book, piece[1:]), [piece])


class SeveralBoundsTest(SoonTest):
    def hold(self, book, texts):
        ring = without_all(book, texts)
        sure = one_is_sure(book, texts)
        self.assertEqual(sure, ring is None)
        told, few = needed(book, texts), fewest(book, texts)
        if sure:
            self.assertTrue(one_is_sure(book, [texts[at] for at in few]))
            self.assertTrue(all(at in few for at in told))
            for at in few:
                self.assertEqual(at in told, not one_is_sure(book, texts[:at] + texts[at + 1:]))
        else:
            self.assertTrue(fits(book, ring))
            self.assertFalse(any(plain_stands(ring, text) for text in texts))
            self.assertEqual([told, few], [[], None])
        return sure

    def test_six_pieces_of_thirty_letters(self):
        rng = random.Random(10)
        for book in books_at_the_bounds():
            for number, length in ((6, 30), (6, book[0] + 3), (6, book[0] + 1), (7, 33)):
                self.hold(book, [random_piece(rng, book, length - book[0] + 1) for _ in range(number)])

    def test_long_pieces_that_are_sure_together_alone(self):
        # From one a to the next one is one round of b to i or more, and somewhere there are two at least.
        book = (2, tuple(sorted(plain_windows(2, "abcdefghi") + ["ib"])))
        turn = "bcdefghi"
        texts = [turn * 3, "a" + turn * 2 + "a", turn * 3 + "a", "a" + turn * 3]
        self.assertEqual([one_is_sure(book, [text]) for text in texts], [False] * 4)
        self.assertTrue(self.hold(book, texts))
        self.assertEqual([needed(book, texts), fewest(book, texts)], [[1], (0, 1)])
        self.assertEqual([needed(book, texts[:2]), fewest(book, texts[1:])], [[0, 1], (0, 1)])
        self.assertTrue(self.hold(book, texts + texts[:2]))
        self.assertFalse(self.hold(book, [texts[0], texts[2], texts[3], turn * 3]))


class CountsBoundsTest(SoonTest):
    def hold(self, book, bounds):
        counts, lot = counts_between(book, bounds), bar(book, bounds)
        self.assertNotEqual(counts is None, lot is None)
        if lot is not None:
            self.assertTrue(bar_holds(book, bounds, lot) and plain_bar(book, bounds, lot))
        else:
            self.assertTrue(plain_balance(book, counts) and plain_within(bounds, counts))
        for at in range(0, len(bounds), 4):
            most, least = most_of(book, bounds, book[1][at]), least_of(book, bounds, book[1][at])
            self.assertEqual([most is None, least is None], [counts is None] * 2)
            if counts is not None:
                self.assertTrue(least <= counts[at] <= most)
                for pair in ((most + 1, bounds[at][1]), (bounds[at][0], least - 1)):
                    if pair[0] <= pair[1]:
                        self.assertIsNone(counts_between(book, bounds[:at] + (pair,) + bounds[at + 1:]))
        return counts is not None

    def test_bounds_to_the_greatest(self):
        rng = random.Random(11)
        greatest = 10 ** 30
        held = []
        for book in books_at_the_bounds():
            held.append(self.hold(book, tuple((rng.randint(0, 9), greatest) for _ in book[1])))
            held.append(self.hold(book, tuple((0, rng.randint(0, greatest)) for _ in book[1])))
            held.append(self.hold(book, tuple((rng.randint(0, greatest // 99), greatest) for _ in book[1])))
            leasts = [rng.randint(0, greatest // 2) for _ in book[1]]
            held.append(self.hold(book, tuple((least, least + rng.randint(0, greatest // 9)) for least in leasts)))
        self.assertIn(True, held)
        self.assertIn(False, held)

    def test_forty_windows_that_no_ring_text_fits(self):
        apart = (3, tuple(sorted("a" + letter + other for letter in "bcdefgh" for other in "pqrst")))
        for bounds in (((0, 10 ** 30),) * 35, ((1, 10 ** 30),) + ((0, 10 ** 30),) * 34):
            self.hold(apart, bounds)

    def test_ring_texts_of_two_thousand_letters(self):
        rng = random.Random(12)
        for letters in ("a", "ab", "abcdef"):
            ring = "".join(rng.choices(letters, k=2000))
            book = (2, tuple(plain_windows(2, ring)))
            counts = plain_counts(book, ring)
            self.assertEqual(counts_of(book, ring), counts)
            self.assertTrue(balance(book, counts))
            self.assertEqual(plain_counts(book, ring_of(book, counts)), counts)
        book = (6, tuple(plain_windows(6, "aabab" * 3 + "b")))
        counts = plain_counts(book, ("aabab" * 3 + "b") * 140)
        self.assertEqual(plain_counts(book, ring_of(book, counts)), counts)

    def test_great_counts(self):
        many = 10 ** 800
        for book in books_at_the_bounds():
            self.assertIs(balance(book, (many,) * len(book[1])), balance(book, (1,) * len(book[1])))
            counts = tuple(many + (window[1:] == book[1][0][1:]) for window in book[1])
            if not plain_balance(book, counts):
                self.assertIsNone(ring_of(book, counts))
        closed = (2, ("aa", "bb"))
        self.assertEqual([balance(closed, (many, many)), ring_of(closed, (many, many))], [True, None])


if __name__ == "__main__":
    unittest.main()

"""Point [13]: whether one of several pieces surely stands; facts M1 and M2."""

import random
import unittest
from itertools import product

from tests.helper import BOOK, lots, pieces, plain_fits, plain_missable, plain_rings, plain_stands, plain_windows
from tests.helper import small_books
from surepieces.books import fits, has_ring, stands_in
from surepieces.several import fewest, needed, one_is_sure, without_all
from surepieces.sure import is_sure, without

LOOPED = (2, ("aa", "ab", "ba"))
FULL = (2, ("aa", "ab", "ba", "bb"))
CYCLE = (2, ("ab", "bc", "ca"))


def picked(texts, indexes):
    return [texts[at] for at in indexes]


def plain_sure(book, texts):
    """Whether one of the texts surely stands; of no text at all it is not."""
    return bool(texts) and not plain_missable(book, texts)


def plain_fewest(book, texts):
    rows = [row for row in lots(list(range(len(texts)))) if row and plain_sure(book, picked(texts, row))]
    return min(rows, key=lambda row: (len(row), row)) if rows else None


def ring_with_all(book, texts):
    """A ring text that fits in which all the texts stand, laid out window by window."""
    size, windows = book
    walk = texts[0]
    for text in texts[1:] + list(windows) + texts[:1]:
        came, front = {walk[1 - size:]: ""}, [walk[1 - size:]]
        while text[:size - 1] not in came:
            place = front.pop(0)
            for window in windows:
                if window[:-1] == place and window[1:] not in came:
                    came[window[1:]] = came[place] + window[-1]
                    front.append(window[1:])
        walk += came[text[:size - 1]] + text[size - 1:]
    return walk[len(texts[0]):]


class SeveralTest(unittest.TestCase):
    def hold(self, book, texts):
        """All four tell what a plain look finds."""
        before = list(texts)
        sure, ring = one_is_sure(book, texts), without_all(book, texts)
        self.assertIs(sure, plain_sure(book, texts), (book, texts))
        self.assertEqual(sure, ring is None, (book, texts))
        if ring is not None:
            self.assertTrue(fits(book, ring) and plain_fits(book, ring), (book, texts, ring))
            self.assertFalse(any(stands_in(ring, text) or plain_stands(ring, text) for text in texts), (book, texts))
        own = [at for at in range(len(texts)) if not plain_sure(book, texts[:at] + texts[at + 1:])] if sure else []
        self.assertEqual(needed(book, texts), own, (book, texts))
        self.assertEqual(fewest(book, texts), plain_fewest(book, texts), (book, texts))
        self.assertEqual(texts, before)
        return sure

    def test_one_is_sure(self):
        self.assertIs(one_is_sure(BOOK, ["cabc", "cabd"]), True)
        self.assertIs(one_is_sure(BOOK, ["cabc", "dabd"]), False)
        self.assertIs(one_is_sure(LOOPED, ["aaa", "baab"]), True)
        self.assertIs(one_is_sure(LOOPED, ["aaa", "babab"]), False)

    def test_several_of_which_none_alone_is_sure(self):
        for texts in (["aaa", "baab"], ["baab", "aaa"]):
            self.assertEqual([is_sure(LOOPED, text) for text in texts], [False, False])
            self.assertIs(one_is_sure(LOOPED, texts), True)
            self.assertIsNone(without_all(LOOPED, texts))
            self.assertEqual(needed(LOOPED, texts), [0, 1])
            self.assertEqual(fewest(LOOPED, texts), (0, 1))
        texts = ["aaaa", "baab", "baaab"]
        self.assertEqual([one_is_sure(LOOPED, picked(texts, row)) for row in lots([0, 1, 2])], [False] * 7 + [True])
        self.assertEqual([needed(LOOPED, texts), fewest(LOOPED, texts)], [[0, 1, 2], (0, 1, 2)])

    def test_one_piece_alone(self):
        self.assertIs(one_is_sure(BOOK, ["cabd"]), True)
        self.assertEqual([needed(BOOK, ["cabd"]), fewest(BOOK, ["cabd"])], [[0], (0,)])
        self.assertIs(one_is_sure(BOOK, ["cabc"]), False)
        self.assertEqual([needed(BOOK, ["cabc"]), fewest(BOOK, ["cabc"])], [[], None])
        self.assertFalse(plain_stands(without_all(BOOK, ["cabc"]), "cabc"))

    def test_the_same_piece_twice(self):
        self.assertIs(one_is_sure(BOOK, ["cabd", "cabd"]), True)
        self.assertEqual([needed(BOOK, ["cabd", "cabd"]), fewest(BOOK, ["cabd", "cabd"])], [[], (0,)])
        self.assertIs(one_is_sure(BOOK, ["cabc", "cabc"]), False)
        self.assertEqual([needed(BOOK, ["cabc", "cabc"]), fewest(BOOK, ["cabc", "cabc"])], [[], None])
        texts = ["aaa", "baab", "aaa"]
        self.assertEqual([needed(LOOPED, texts), fewest(LOOPED, texts)], [[1], (0, 1)])
        self.assertEqual(fewest(LOOPED, ["baab", "baab", "aaa"]), (0, 2))

    def test_pieces_of_one_step(self):
        for book in (BOOK, LOOPED, FULL, CYCLE, (2, ("aa",)), (6, ("aaaaaa",))):
            for window in book[1]:
                self.assertIs(one_is_sure(book, [window]), True)
                self.assertEqual(fewest(book, [window]), (0,))

    def test_a_piece_within_another_one(self):
        self.assertIs(one_is_sure(BOOK, ["abcabc", "cabd"]), True)
        self.assertEqual(needed(BOOK, ["abcabc", "cabd", "bcabda"]), [])
        self.assertEqual(needed(BOOK, ["abcabc", "cabc", "cabcab"]), [])
        self.assertEqual(fewest(BOOK, ["abcabc", "bcabda", "cabd"]), (1,))
        for texts in (["aaab", "aa"], ["aa", "aaab"], ["aaaa", "aaa", "baab"], ["baaab", "aaab", "baab"]):
            self.hold(LOOPED, texts)

    def test_fewest_is_the_first_of_the_shortest(self):
        self.assertEqual(fewest(BOOK, ["cabc", "cabd", "dabc"]), (1,))
        self.assertEqual(fewest(BOOK, ["cabd", "dabc"]), (0,))
        self.assertEqual(fewest(LOOPED, ["baaab", "aaa", "baab", "aaa", "baab"]), (1, 2))
        self.assertEqual(fewest(LOOPED, ["baaab", "baab", "aaaa", "aaa"]), (1, 3))

    def test_an_endless_book(self):
        for texts in (["abcabcabcabc"], ["ab", "bcabcabca"], ["cab"] * 6):
            self.assertIs(one_is_sure(CYCLE, texts), True)
            self.assertEqual(fewest(CYCLE, texts), (0,))
            self.assertEqual(needed(CYCLE, texts), [0] if len(texts) == 1 else [])

    def test_kinds(self):
        self.assertIs(type(needed(LOOPED, ["aaa", "baab"])), list)
        self.assertIs(type(fewest(LOOPED, ["aaa", "baab"])), tuple)
        self.assertIs(type(without_all(LOOPED, ["aaa"])), str)

    def test_pairs_of_pieces_of_small_books(self):
        for book in small_books(2, "ab"):
            if has_ring(book):
                own = list(pieces(book, 5))
                for one in own:
                    for other in own[::2]:
                        self.hold(book, [one, other])

    def test_random_lists(self):
        rng = random.Random(1)
        books = [book for book in list(small_books(2, "abc")) + list(small_books(3, "ab")) if has_ring(book)]
        books = [BOOK, LOOPED, FULL] + [book for book in books if len(book[1]) < 7]
        sure = 0
        for at in range(500):
            book = books[at % len(books)]
            own = list(pieces(book, book[0] + 3))[len(book[1]):]
            sure += self.hold(book, rng.choices(own, k=rng.randint(1, 5)))
        self.assertTrue(100 < sure < 400, sure)

    def test_lists_that_are_sure_together_alone(self):
        rng = random.Random(2)
        told = 0
        for book in (LOOPED, FULL, BOOK, (2, ("ab", "ac", "ba", "bc", "ca")), (3, ("aaa", "aab", "aba", "baa"))):
            own = [piece for piece in pieces(book, book[0] + 3) if not is_sure(book, piece)]
            for _ in range(120):
                texts = rng.choices(own, k=rng.randint(2, 6))
                told += self.hold(book, texts)
        self.assertGreater(told, 60)


class FactsTest(unittest.TestCase):
    def test_m1_a_piece_is_sure_exactly_if_one_of_it_alone_is(self):
        for book in list(small_books(2, "ab")) + list(small_books(3, "ab"))[::5] + [BOOK]:
            if has_ring(book):
                for piece in pieces(book, book[0] + 4):
                    sure = is_sure(book, piece)
                    self.assertIs(one_is_sure(book, [piece]), sure)
                    self.assertEqual(without_all(book, [piece]) is None, sure)
                    self.assertEqual(without_all(book, [piece]), without(book, piece))
                    self.assertEqual(fewest(book, [piece]), (0,) if sure else None)

    def test_m2_all_pieces_of_a_list_stand_in_one_ring_text(self):
        rng = random.Random(3)
        books = [book for book in list(small_books(2, "abc")) + list(small_books(3, "ab")) if has_ring(book)]
        for book in rng.sample(books, 100) + [BOOK, LOOPED, FULL, CYCLE]:
            texts = rng.choices(list(pieces(book, book[0] + 3)), k=rng.randint(1, 6))
            ring = ring_with_all(book, texts)
            self.assertTrue(fits(book, ring) and plain_fits(book, ring))
            self.assertTrue(all(stands_in(ring, text) and plain_stands(ring, text) for text in texts))

    def test_among_all_short_ring_texts(self):
        rng = random.Random(4)
        for size, letters, longest in ((2, "ab", 10), (3, "ab", 11), (2, "abc", 7)):
            rings = plain_rings(size, letters, longest)
            for windows in rng.sample(sorted(rings), min(30, len(rings))):
                book = (size, windows)
                own = list(pieces(book, size + 3))
                for _ in range(12):
                    texts = rng.choices(own, k=3)
                    if one_is_sure(book, texts):
                        for ring in rings[windows]:
                            self.assertTrue(any(plain_stands(ring, text) for text in texts), (book, texts, ring))
                    for row in product([False, True], repeat=3):
                        some = [text for text, kept in zip(texts, row) if kept]
                        if some and not one_is_sure(book, some):
                            self.assertFalse(any(plain_stands(without_all(book, some), text) for text in some))

    def test_longer_windows(self):
        rng = random.Random(5)
        for size in (4, 5, 6):
            for _ in range(25):
                ring = "".join(rng.choices("ab", k=rng.randint(4, 11)))
                book = (size, tuple(plain_windows(size, ring)))
                texts = rng.choices(list(pieces(book, size + 4)), k=3)
                self.assertIs(one_is_sure(book, texts), plain_sure(book, texts), (book, texts))
                self.assertEqual(fewest(book, texts), plain_fewest(book, texts), (book, texts))


if __name__ == "__main__":
    unittest.main()

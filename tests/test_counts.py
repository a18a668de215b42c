"""Points [30] and [31]: counts, ring texts that have them, bounds, bars, the most and the least; facts C1 and C2."""

import random
import unittest
from itertools import product

from tests.helper import BOOK, NO_RING, faulty_bounds, faulty_counts, lots, odd_objects, plain_balance, plain_bar
from tests.helper import plain_between, plain_closed_lot, plain_counts, plain_places, plain_rings, plain_within
from tests.helper import small_books
from surepieces.counts import balance, bar, bar_holds, counts_between, counts_of, least_of, most_of, ring_of
from surepieces.errors import InvalidBounds, InvalidCounts, NotWithin

LOOPED = (2, ("aa", "ab", "ba"))
TWO_RINGS = (2, ("ab", "ba", "cd", "dc"))
BOUNDS = ((3, 4), (1, 9), (1, 1), (0, 9), (0, 9))
BARRED = ((3, 4), (0, 1), (0, 1), (0, 9), (0, 9))
GREATEST = 10 ** 30


class CountsOfTest(unittest.TestCase):
    def test_counts_of(self):
        self.assertEqual(counts_of(BOOK, "abcabd"), (2, 1, 1, 1, 1))
        self.assertEqual(counts_of(BOOK, "dab"), (1, 0, 1, 0, 1))
        self.assertEqual(counts_of(TWO_RINGS, "dcdc"), (0, 0, 2, 2))

    def test_short_ring_texts_are_read_from_each_letter_once(self):
        self.assertEqual(counts_of((2, ("aa",)), "a"), (1,))
        self.assertEqual(counts_of((6, ("aaaaaa",)), "aaa"), (3,))
        self.assertEqual(counts_of((6, ("ababab", "bababa")), "ab"), (1, 1))
        self.assertEqual(counts_of((5, ("abcab", "bcabc", "cabca", "zzzzz")), "bca"), (1, 1, 1, 0))

    def test_of_a_book_that_no_ring_text_fits(self):
        self.assertEqual(counts_of(NO_RING, "bb"), (0, 2))
        self.assertEqual(counts_of((2, ("aa", "bb")), "aaa"), (3, 0))

    def test_not_within(self):
        for book, ring in ((BOOK, "abcab"), (BOOK, "a"), (BOOK, "xyz"), (NO_RING, "ab"), ((2, ("ab",)), "ab"),
                           ((3, ("aba", "bab")), "a"), ((6, ("aaaaaa",)), "ab"), (BOOK, "abcabdb")):
            with self.assertRaises(NotWithin) as caught:
                counts_of(book, ring)
            self.assertEqual(caught.exception.value, ring)

    def test_all_short_ring_texts(self):
        for book in (LOOPED, (2, ("aa", "ab", "ba", "bb")), (3, ("aab", "aba", "baa")), (6, ("ababab", "bababa"))):
            for length in range(1, 8):
                for row in product("ab", repeat=length):
                    own = plain_counts(book, "".join(row))
                    if own is None:
                        self.assertRaises(NotWithin, counts_of, book, "".join(row))
                    else:
                        self.assertEqual(counts_of(book, "".join(row)), own)
                        self.assertEqual(sum(own), length)


class BalanceTest(unittest.TestCase):
    def test_balance(self):
        for counts in ((2, 1, 1, 1, 1), (0, 0, 0, 0, 0), (1, 1, 0, 1, 0), (9, 4, 5, 4, 5)):
            self.assertIs(balance(BOOK, counts), True)
        self.assertIs(balance(TWO_RINGS, (3, 3, 5, 5)), True)
        self.assertIs(balance(NO_RING, (0, 7)), True)

    def test_no_balance(self):
        for counts in ((1, 1, 1, 1, 1), (2, 1, 1, 1, 0), (0, 0, 0, 0, 1), (2, 1, 1, 2, 0)):
            self.assertIs(balance(BOOK, counts), False, counts)
        self.assertIs(balance(NO_RING, (1, 7)), False)

    def test_counts_however_great(self):
        many = 10 ** 200
        self.assertIs(balance(BOOK, (2 * many, many, many, many, many)), True)
        self.assertIs(balance(BOOK, (2 * many + 1, many, many, many, many)), False)
        self.assertIs(balance((2, ("aa",)), (many,)), True)

    def test_small_counts(self):
        for book in small_books(2, "ab"):
            for counts in product(range(4), repeat=len(book[1])):
                self.assertIs(balance(book, counts), plain_balance(book, counts))

    def test_faulty_counts(self):
        for value in faulty_counts(5):
            self.assertRaises(InvalidCounts, balance, BOOK, value)
            self.assertRaises(InvalidCounts, ring_of, BOOK, value)

    def test_a_book_of_one_window(self):
        for value in odd_objects() + [1, (1, 1), (), (-1,), (True,), [1], ((1,),)]:
            self.assertRaises(InvalidCounts, balance, (2, ("aa",)), value)
        self.assertIs(balance((2, ("ab",)), (0,)), True)
        self.assertIs(balance((2, ("ab",)), (1,)), False)


class RingOfTest(unittest.TestCase):
    def hold(self, book, counts):
        """What is told has these counts, and something is told exactly if fact C2 says so."""
        ring = ring_of(book, counts)
        used = (book[0], tuple(window for window, count in zip(book[1], counts) if count))
        one = plain_balance(book, counts) and any(counts)
        one = one and not any(plain_closed_lot(used, lot) for lot in lots(plain_places(used)))
        self.assertEqual(ring is not None, one, (book, counts))
        if ring is not None:
            self.assertEqual(plain_counts(book, ring), counts, (book, counts, ring))
            self.assertEqual(counts_of(book, ring), counts)
        return ring

    def test_ring_of(self):
        for counts in ((2, 1, 1, 1, 1), (1, 1, 0, 1, 0), (3, 2, 1, 2, 1), (9, 4, 5, 4, 5)):
            self.assertIsNotNone(self.hold(BOOK, counts))
        self.assertEqual(ring_of((2, ("aa",)), (3,)), "aaa")
        self.assertEqual(ring_of((6, ("aaaaaa",)), (1,)), "a")

    def test_counts_that_are_all_0(self):
        for book in (BOOK, NO_RING, LOOPED, (2, ("aa",)), TWO_RINGS):
            self.assertIsNone(ring_of(book, (0,) * len(book[1])))

    def test_counts_that_do_not_balance(self):
        for counts in ((1, 1, 1, 1, 1), (2, 1, 1, 1, 0), (0, 0, 0, 0, 1)):
            self.assertIsNone(self.hold(BOOK, counts))

    def test_counts_that_balance_but_have_a_closed_lot(self):
        self.assertIs(balance(TWO_RINGS, (1, 1, 1, 1)), True)
        self.assertIsNone(self.hold(TWO_RINGS, (1, 1, 1, 1)))
        self.assertIsNone(self.hold((2, ("aa", "ab", "ba", "bb")), (1, 0, 0, 1)))
        self.assertIsNone(self.hold((2, ("aa", "ab", "ba", "bc", "ca", "cc")), (0, 1, 1, 0, 0, 2)))

    def test_counts_with_windows_left_out(self):
        self.assertIsNotNone(self.hold(TWO_RINGS, (0, 0, 2, 2)))
        self.assertIsNotNone(self.hold(TWO_RINGS, (1, 1, 0, 0)))
        self.assertIsNotNone(self.hold(NO_RING, (0, 4)))
        self.assertEqual(ring_of((2, ("aa", "ab", "ba", "bb")), (0, 0, 0, 3)), "bbb")

    def test_great_counts_that_have_none(self):
        many = 10 ** 300
        self.assertIsNone(ring_of(TWO_RINGS, (many, many, many, many)))
        self.assertIsNone(ring_of(BOOK, (many, many, 0, many, 1)))
        self.assertIsNone(ring_of((2, ("ab",)), (many,)))

    def test_c2_over_all_short_ring_texts(self):
        for size, letters, longest in ((2, "ab", 9), (3, "ab", 9), (2, "abc", 6)):
            windows = sorted("".join(row) for row in product(letters, repeat=size))
            rings = {}
            for found in plain_rings(size, letters, longest).values():
                for ring in found:
                    rings.setdefault(plain_counts((size, windows), ring), ring)
            book = (size, tuple(windows))
            for counts in rings:
                self.hold(book, counts)
                self.assertIsNotNone(ring_of(book, counts))
            rng = random.Random(1)
            for _ in range(1500):
                counts = [0] * len(windows)
                for _ in range(rng.randint(1, longest)):
                    counts[rng.randrange(len(windows))] += 1
                self.assertEqual(ring_of(book, tuple(counts)) is not None, tuple(counts) in rings)

    def test_small_counts_of_small_books(self):
        for book in small_books(2, "ab"):
            for counts in product(range(4), repeat=len(book[1])):
                self.hold(book, counts)
        rng = random.Random(2)
        for book in rng.sample(list(small_books(2, "abc")), 80):
            for _ in range(20):
                self.hold(book, tuple(rng.choices([0, 1, 1, 2], k=len(book[1]))))


class BoundsTest(unittest.TestCase):
    def hold(self, book, bounds):
        """Exactly one of counts and a bar is told, each as it should be; the most and the least go with the counts."""
        counts, lot = counts_between(book, bounds), bar(book, bounds)
        self.assertNotEqual(counts is None, lot is None, (book, bounds))
        if lot is not None:
            self.assertIs(type(lot), tuple)
            self.assertTrue(plain_bar(book, bounds, lot), (book, bounds, lot))
            self.assertIs(bar_holds(book, bounds, lot), True)
        else:
            self.assertEqual([type(counts)] + [type(count) for count in counts], [tuple] + [int] * len(book[1]))
            self.assertTrue(plain_balance(book, counts) and plain_within(bounds, counts), (book, bounds, counts))
            self.assertIs(balance(book, counts), True)
        for at, window in enumerate(book[1]):
            most, least = most_of(book, bounds, window), least_of(book, bounds, window)
            self.assertEqual([most is None, least is None], [counts is None] * 2)
            if counts is not None:
                self.assertTrue(bounds[at][0] <= least <= counts[at] <= most <= bounds[at][1], (book, bounds, window))
        return counts is not None

    def hold_plainly(self, book, bounds):
        told = plain_between(book, bounds)
        self.assertEqual(self.hold(book, bounds), bool(told), (book, bounds))
        for at, window in enumerate(book[1] if told else ()):
            self.assertEqual(most_of(book, bounds, window), max(counts[at] for counts in told), (book, bounds, window))
            self.assertEqual(least_of(book, bounds, window), min(counts[at] for counts in told), (book, bounds, window))
        bars = [lot for lot in lots(plain_places(book)) if bar_holds(book, bounds, lot)]
        self.assertEqual(bars, [lot for lot in lots(plain_places(book)) if plain_bar(book, bounds, lot)])
        self.assertEqual(bool(told), not bars, (book, bounds))
        return bool(told)

    def test_told_bounds(self):
        self.assertTrue(self.hold_plainly(BOOK, ((3, 4), (1, 5), (1, 1), (0, 5), (0, 5))))
        self.assertEqual([most_of(BOOK, BOUNDS, window) for window in BOOK[1]], [4, 3, 1, 3, 1])
        self.assertEqual([least_of(BOOK, BOUNDS, window) for window in BOOK[1]], [3, 2, 1, 2, 1])
        self.assertFalse(self.hold(BOOK, BARRED))
        self.assertIsNone(counts_between(BOOK, BARRED))
        self.assertIsNone(bar(BOOK, BOUNDS))

    def test_bounds_that_are_met_exactly_and_missed_by_one(self):
        met = ((2, 2), (1, 1), (1, 1), (1, 1), (1, 1))
        self.assertEqual(counts_between(BOOK, met), (2, 1, 1, 1, 1))
        self.assertEqual([most_of(BOOK, met, "ab"), least_of(BOOK, met, "ab")], [2, 2])
        for at in range(5):
            for step in (1, -1):
                count = met[at][0] + step
                missed = met[:at] + ((count, count),) + met[at + 1:]
                self.assertFalse(self.hold_plainly(BOOK, missed))
                self.assertIsNone(counts_between(BOOK, missed))

    def test_a_least_above_what_can_come_in(self):
        self.assertIsNone(counts_between(BOOK, ((3, 9), (0, 9), (0, 9), (0, 1), (0, 1))))
        self.assertTrue(self.hold(BOOK, ((2, 9), (0, 9), (0, 9), (0, 1), (0, 1))))
        self.assertEqual(bar(NO_RING, ((1, 5), (0, 5))), ("a",))
        self.assertEqual(counts_between(NO_RING, ((0, 5), (3, 5))), (0, 3))
        self.assertIsNone(counts_between((2, ("ab",)), ((1, 1),)))
        self.assertEqual(bar((2, ("ab",)), ((1, 1),)), ("a",))

    def test_windows_whose_two_ends_are_one_place(self):
        self.assertEqual(most_of((2, ("aa",)), ((2, 7),), "aa"), 7)
        self.assertEqual(least_of((2, ("aa",)), ((2, 7),), "aa"), 2)
        self.assertEqual(most_of(LOOPED, ((0, 5), (1, 3), (2, 4)), "aa"), 5)
        self.assertEqual(least_of(LOOPED, ((0, 5), (1, 3), (2, 4)), "aa"), 0)
        self.assertIsNone(most_of(LOOPED, ((0, 5), (1, 1), (2, 4)), "aa"))
        self.assertIs(bar_holds(LOOPED, ((5, 5), (0, 0), (0, 0)), ("a",)), False)

    def test_books_that_no_ring_text_fits(self):
        self.assertTrue(self.hold_plainly(TWO_RINGS, ((1, 3), (2, 4), (0, 0), (0, 3))))
        self.assertFalse(self.hold_plainly(TWO_RINGS, ((1, 3), (2, 4), (0, 1), (2, 3))))
        self.assertEqual(most_of(TWO_RINGS, ((1, 3), (2, 4), (0, 0), (0, 3)), "dc"), 0)

    def test_c1_over_small_books(self):
        rng = random.Random(3)
        held = 0
        for at in range(900):
            book = rng.choice(list(small_books(2, "ab")))
            held += self.hold_plainly(book, self.random_bounds(rng, book, 4))
        for book in rng.sample([book for book in small_books(2, "abc") if 3 < len(book[1]) < 7], 60):
            for _ in range(4):
                held += self.hold_plainly(book, self.random_bounds(rng, book, 2))
        self.assertTrue(300 < held < 1000, held)

    def random_bounds(self, rng, book, most):
        pairs = [sorted((rng.randint(0, most), rng.randint(0, most))) for _ in book[1]]
        return tuple((least, most) for least, most in pairs)

    def test_c1_over_longer_windows(self):
        rng = random.Random(4)
        for size, letters in ((3, "ab"), (4, "ab"), (5, "ab"), (6, "ab"), (2, "abcd")):
            windows = ["".join(row) for row in product(letters, repeat=size)]
            for _ in range(25):
                book = (size, tuple(sorted(rng.sample(windows, rng.randint(2, 8)))))
                self.hold(book, self.random_bounds(rng, book, 5))
                self.hold(book, tuple((0, rng.randint(0, 5)) for _ in book[1]))

    def test_great_bounds(self):
        rng = random.Random(5)
        windows = ["".join(row) for row in product("abcd", repeat=2)]
        held = 0
        for _ in range(60):
            book = (2, tuple(sorted(rng.sample(windows, 10))))
            bounds = []
            for _ in book[1]:
                least = rng.choice([0, 0, 1, rng.randint(0, GREATEST // 40)])
                bounds.append((least, rng.choice([GREATEST, rng.randint(least, GREATEST)])))
            held += self.hold(book, tuple(bounds))
            self.assert_tight(book, tuple(bounds))
        self.assertTrue(10 < held < 50, held)
        self.assertEqual(most_of(BOOK, ((0, GREATEST),) * 5, "ab"), GREATEST)
        self.assertEqual(most_of(BOOK, ((0, GREATEST),) * 5, "bc"), GREATEST)
        self.assertEqual(least_of(BOOK, ((GREATEST, GREATEST),) + ((0, GREATEST - 1),) * 4, "bd"), 1)
        self.assertIsNone(bar(BOOK, ((GREATEST, GREATEST),) + ((0, GREATEST // 2),) * 4))
        self.assertIsNotNone(bar(BOOK, ((GREATEST, GREATEST),) + ((0, GREATEST // 2 - 1),) * 4))

    def assert_tight(self, book, bounds):
        """The most and the least can be had, and nothing beyond them."""
        for at, window in enumerate(book[1]):
            most, least = most_of(book, bounds, window), least_of(book, bounds, window)
            if most is not None:
                for count in (most, least):
                    self.assertIsNotNone(counts_between(book, bounds[:at] + ((count, count),) + bounds[at + 1:]))
                for pair in ((most + 1, bounds[at][1]), (bounds[at][0], least - 1)):
                    if pair[0] <= pair[1]:
                        self.assertIsNone(counts_between(book, bounds[:at] + (pair,) + bounds[at + 1:]))

    def test_faulty_bounds(self):
        for value in faulty_bounds(5):
            self.assertRaises(InvalidBounds, counts_between, BOOK, value)
            self.assertRaises(InvalidBounds, bar, BOOK, value)
            self.assertRaises(InvalidBounds, bar_holds, BOOK, value, ("a",))
            self.assertRaises(InvalidBounds, most_of, BOOK, value, "ab")
            self.assertRaises(InvalidBounds, least_of, BOOK, value, "ab")

    def test_the_greatest_bound(self):
        self.assertEqual(counts_between((2, ("aa",)), ((GREATEST, GREATEST),)), (GREATEST,))
        self.assertRaises(InvalidBounds, counts_between, (2, ("aa",)), ((GREATEST, GREATEST + 1),))


class BarHoldsTest(unittest.TestCase):
    def test_bars(self):
        self.assertIs(bar_holds(BOOK, BARRED, ("a", "c", "d")), True)
        self.assertIs(bar_holds(BOOK, BARRED, ("a",)), False)
        self.assertIs(bar_holds(BOOK, BARRED, ()), False)
        self.assertIs(bar_holds(BOOK, BARRED, ("a", "b", "c", "d")), False)

    def test_any_object(self):
        right = ("a", "c", "d")
        wrong = [list(right), ("c", "a", "d"), ("a", "a", "c", "d"), ("a", "c", "d", "e"), ("a", "c", "d", 1), "acd",
                 (right,), [right], {"a": 1, "c": 1, "d": 1}, {"a", "c", "d"}, (b"a", b"c", b"d"), ("a", "c", None),
                 (("a",), ("c",), ("d",)), (["a"], ["c"], ["d"]), ("ab", "ca", "da"), ("", "a", "c", "d"), ("A",)]
        for value in wrong + odd_objects():
            self.assertIs(bar_holds(BOOK, BARRED, value), False, value)
        for item in odd_objects():
            self.assertIs(bar_holds(BOOK, BARRED, ("a", "c", item)), False)
            self.assertIs(bar_holds(BOOK, BARRED, (item, "a", "c", "d")), False)

    def test_missed_by_one(self):
        for most, held in ((1, True), (2, False)):
            bounds = ((3, 9), (0, 9), (0, 9), (0, most), (0, 1))
            self.assertIs(bar_holds(BOOK, bounds, ("a",)), held)
            self.assertEqual(counts_between(BOOK, bounds) is None, held)


if __name__ == "__main__":
    unittest.main()

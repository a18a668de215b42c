"""Point [34]: windows that may go, those that may not, lots that ring texts have, and windows that must join."""

import random
import unittest
from itertools import combinations, product

from tests.helper import BOOK, NO_RING, SMALL_LETTERS, SoonTest, books_at_the_bounds, cycle, lots, odd_objects
from tests.helper import plain_fits, plain_places, plain_ringed, plain_windows, small_books
from surepieces.books import has_ring, is_book
from surepieces.errors import InvalidWindows, NoRing
from surepieces.spare import joined, largest_lots, least_join, may_go, needed, rest, round_ring

LOOPED = (2, ("aa", "ab", "ba"))
FULL = (2, ("aa", "ab", "ba", "bb"))
TWO_RINGS = (2, ("ab", "ba", "cd", "dc"))
ONE = (6, ("aaaaaa",))


def random_books(seed, number, cases):
    """Books of any windows; some ring text fits few of them."""
    rng = random.Random(seed)
    for _ in range(number):
        size, letters, most = rng.choice(cases)
        windows = ["".join(row) for row in product(letters, repeat=size)]
        yield (size, tuple(sorted(rng.sample(windows, rng.randint(1, min(most, len(windows)))))))


def left_over(book, gone):
    return [window for window in book[1] if window not in gone]


def plain_round_ring(book):
    """The first shortest ring text, by a look at all texts, short ones first."""
    letters = sorted({letter for window in book[1] for letter in window})
    for length in range(1, len(plain_places(book)) + 1):
        for row in product(letters, repeat=length):
            if set(plain_windows(book[0], "".join(row))) <= set(book[1]):
                return "".join(row)
    return None


def plain_least_join(book):
    """How many windows must join, by a look at all windows of the letters, and at all pairs of them."""
    letters = sorted({letter for window in book[1] for letter in window})
    others = ["".join(row) for row in product(letters, repeat=book[0]) if "".join(row) not in book[1]]
    for many in range(3):
        for more in combinations(others, many):
            if plain_ringed(list(book[1]) + list(more)):
                return many
    return None


class NeededTest(unittest.TestCase):
    def test_needed(self):
        self.assertEqual(needed(BOOK), ["ab", "bc", "bd", "ca", "da"])
        self.assertEqual(needed(LOOPED), ["ab", "ba"])
        self.assertEqual(needed(FULL), ["ab", "ba"])
        self.assertEqual(needed((2, ("ab", "ac", "ba", "bc", "ca", "cb"))), [])

    def test_a_book_of_one_window(self):
        for book in ((2, ("aa",)), ONE):
            self.assertEqual(needed(book), list(book[1]))
            self.assertEqual(rest(book), ())

    def test_small_books(self):
        for book in list(small_books(2, "abc")) + list(small_books(3, "ab")):
            if plain_ringed(book[1]):
                own = [window for window in book[1] if not plain_ringed(left_over(book, [window]))]
                self.assertEqual(needed(book), own, book)

    def test_no_ring(self):
        for function in (needed, rest):
            for book in (NO_RING, (2, ("ab",)), TWO_RINGS):
                self.assertRaises(NoRing, function, book)


class MayGoTest(unittest.TestCase):
    def test_may_go(self):
        self.assertIs(may_go(BOOK, ("bd", "da")), True)
        self.assertIs(may_go(BOOK, ("bd",)), False)
        self.assertIs(may_go(BOOK, ("ab", "bd")), False)

    def test_none_and_all_but_one(self):
        self.assertIs(may_go(BOOK, ()), True)
        self.assertIs(may_go(NO_RING, ()), False)
        self.assertIs(may_go(NO_RING, ("ab",)), True)
        self.assertIs(may_go(NO_RING, ("bb",)), False)
        self.assertIs(may_go(ONE, ()), True)
        self.assertIs(may_go((2, ("ab",)), ()), False)
        self.assertIs(may_go(LOOPED, ("ab", "ba")), True)
        self.assertIs(may_go(LOOPED, ("aa", "ab")), False)

    def test_small_books(self):
        rng = random.Random(1)
        for book in rng.sample(list(small_books(2, "abc")), 60) + list(small_books(2, "ab")):
            for gone in lots(book[1])[:-1]:
                self.assertIs(may_go(book, gone), plain_ringed(left_over(book, gone)), (book, gone))

    def test_faulty_windows(self):
        wrong = [("bb",), ("da", "bd"), ("bd", "bd"), ["bd", "da"], ["bd"], "bd", BOOK[1], list(BOOK[1]), ("bd", "xx"),
                 ("bd", None), ("b",), ("",), (("bd", "da"),), {"bd": 1}, {"bd"}, BOOK, ("BD",), (b"bd",), ("bda",)]
        for value in wrong + odd_objects():
            with self.assertRaises(InvalidWindows) as caught:
                may_go(BOOK, value)
            self.assertEqual(repr(caught.exception.value), repr(value))
        for book in (ONE, (2, ("aa",)), (2, ("ab",))):
            self.assertRaises(InvalidWindows, may_go, book, book[1])


class LargestLotsTest(unittest.TestCase):
    def test_largest_lots(self):
        self.assertEqual(largest_lots((2, ("ab", "ba", "bc", "cd", "dc"))), [("ab", "ba"), ("cd", "dc")])
        self.assertEqual(largest_lots(BOOK), [BOOK[1]])
        self.assertEqual(largest_lots(NO_RING), [("bb",)])
        self.assertEqual(largest_lots((2, ("aa", "ab", "bb"))), [("aa",), ("bb",)])
        self.assertEqual(largest_lots(ONE), [("aaaaaa",)])

    def test_none(self):
        for book in ((2, ("ab",)), (2, ("ab", "ac", "bc")), (6, ("abcdef", "bcdefg"))):
            self.assertEqual(largest_lots(book), [])

    def test_small_books(self):
        rng = random.Random(2)
        for book in rng.sample(list(small_books(2, "abc")), 120) + list(small_books(3, "ab"))[::3]:
            some = [lot for lot in lots(book[1]) if plain_ringed(lot)]
            own = sorted(lot for lot in some if not any(set(lot) < set(other) for other in some))
            self.assertEqual(largest_lots(book), own, book)

    def test_kinds(self):
        told = largest_lots(TWO_RINGS)
        self.assertEqual([type(told)] + [type(lot) for lot in told], [list, tuple, tuple])


class RoundRingTest(unittest.TestCase):
    def test_round_ring(self):
        self.assertEqual(round_ring(BOOK), "abc")
        self.assertEqual(round_ring((2, ("ab", "bc", "ca", "cb"))), "bc")
        self.assertEqual(round_ring((2, ("ab", "ba", "bb"))), "b")
        self.assertEqual(round_ring(TWO_RINGS), "ab")
        self.assertEqual(round_ring((3, ("aab", "aba", "baa", "bab"))), "ab")

    def test_the_first_of_the_shortest(self):
        self.assertEqual(round_ring((2, ("ab", "ac", "bd", "cd", "da"))), "abd")
        self.assertEqual(round_ring((2, ("ad", "ae", "ba", "ca", "db", "ec"))), "adb")
        self.assertEqual(round_ring((2, ("ab", "bz", "ef", "fg", "ge", "za"))), "abz")

    def test_ring_texts_shorter_than_the_windows(self):
        self.assertEqual(round_ring(ONE), "a")
        self.assertEqual(round_ring((6, ("ababab", "bababa"))), "ab")
        self.assertEqual(round_ring((5, ("abcab", "bcabc", "cabca"))), "abc")

    def test_none(self):
        for book in ((2, ("ab",)), (2, ("ab", "ac", "bc")), (6, ("ababab",))):
            self.assertIsNone(round_ring(book))

    def test_books_of_all_kinds(self):
        cases = [(2, "ab", 4), (2, "abc", 7), (2, "abcd", 7), (3, "ab", 6), (3, "abc", 9), (4, "ab", 7), (6, "ab", 30)]
        told = 0
        for book in random_books(3, 300, cases):
            if len(plain_places(book)) < 8:
                self.assertEqual(round_ring(book), plain_round_ring(book), book)
                told += round_ring(book) is not None
        for book in small_books(3, "ab"):
            self.assertEqual(round_ring(book), plain_round_ring(book), book)
        self.assertGreater(told, 60)


class RestTest(unittest.TestCase):
    def hold(self, book):
        gone = rest(book)
        self.assertIs(type(gone), tuple)
        self.assertEqual(list(gone), sorted(set(gone) & set(book[1])))
        self.assertTrue(plain_ringed(left_over(book, gone)), (book, gone))
        for window in left_over(book, gone):
            self.assertFalse(plain_ringed(left_over(book, gone + (window,))), (book, gone, window))
        return gone

    def test_rest(self):
        self.assertEqual(self.hold(BOOK), ())
        self.assertEqual(self.hold(LOOPED), ("aa",))
        self.assertEqual(self.hold(FULL), ("aa", "bb"))
        self.assertIn(len(self.hold((2, ("ab", "ac", "ba", "bc", "ca", "cb")))), (2, 3))

    def test_small_books(self):
        for book in list(small_books(2, "abc")) + list(small_books(3, "ab")):
            if plain_ringed(book[1]):
                self.hold(book)

    def test_larger_books(self):
        rng = random.Random(4)
        for size, letters in ((2, "abcde"), (3, "abc"), (4, "ab"), (5, "ab")):
            for _ in range(15):
                ring = "".join(rng.choices(letters, k=rng.randint(6, 30)))
                self.hold((size, tuple(plain_windows(size, ring))))


class JoinedTest(unittest.TestCase):
    def test_joined(self):
        self.assertEqual(joined(BOOK, ("aa", "zz")), (2, ("aa", "ab", "bc", "bd", "ca", "da", "zz")))
        self.assertEqual(joined(BOOK, ()), BOOK)
        self.assertEqual(joined(NO_RING, ("ba",)), (2, ("ab", "ba", "bb")))
        self.assertEqual(joined((3, ("abc",)), ("aaa", "bca", "xyz")), (3, ("aaa", "abc", "bca", "xyz")))
        self.assertTrue(is_book(joined(BOOK, ("cc", "xy"))))

    def test_faulty_windows(self):
        wrong = [("ab",), ("aa", "ab"), ("zz", "aa"), ("aa", "aa"), ["aa"], [], "aa", ("aaa",), ("a",), ("AA",),
                 ("a ",), ("aa", None), (("aa",),), {"aa": 1}, {"aa"}, (b"aa",), BOOK, BOOK[1], ("",), None, "", 0]
        for value in wrong + odd_objects():
            with self.assertRaises(InvalidWindows) as caught:
                joined(BOOK, value)
            self.assertEqual(repr(caught.exception.value), repr(value))

    def test_what_joins_may_go(self):
        rng = random.Random(5)
        for book in random_books(6, 60, [(2, "abc", 5), (3, "ab", 5)]):
            others = ["".join(row) for row in product("abc", repeat=book[0])]
            more = tuple(window for window in others if window not in book[1] and rng.random() < 0.3)
            whole = joined(book, more)
            self.assertEqual(left_over(whole, more), list(book[1]))
            self.assertIs(may_go(whole, more), has_ring(book))


class LeastJoinTest(unittest.TestCase):
    def test_least_join(self):
        self.assertEqual(least_join(BOOK), 0)
        self.assertEqual(least_join((2, ("ab", "bc"))), 1)
        self.assertEqual(least_join(NO_RING), 1)
        self.assertEqual(least_join(TWO_RINGS), 2)
        self.assertEqual(least_join((2, ("ab", "cd", "ef"))), None)

    def test_by_a_place_that_the_book_does_not_have(self):
        self.assertEqual(least_join((3, ("abc",))), 2)
        self.assertTrue(has_ring((3, ("abc", "bca", "cab"))))
        self.assertEqual(least_join((4, ("abca",))), 2)
        self.assertEqual(least_join((4, ("abcd",))), None)
        self.assertEqual(least_join((4, ("baab",))), 2)
        self.assertEqual(least_join((4, ("aaab",))), None)
        self.assertEqual(least_join((5, ("aaaab",))), None)
        self.assertEqual(least_join((6, ("ababab",))), 1)

    def test_windows_of_other_letters_do_not_join(self):
        self.assertEqual(least_join((2, ("aa", "bb", "cc"))), None)
        self.assertEqual(least_join((2, ("ab",))), 1)

    def test_small_books(self):
        told = {0: 0, 1: 0, 2: 0, None: 0}
        for book in list(small_books(2, "abc"))[::2] + list(small_books(3, "ab")):
            self.assertEqual(least_join(book), plain_least_join(book), book)
        cases = [(2, "abcd", 5), (3, "ab", 4), (3, "abc", 6), (4, "ab", 6), (5, "ab", 6), (2, "abcde", 4),
                 (2, "abcd", 3)]
        for book in random_books(7, 260, cases):
            number = least_join(book)
            self.assertEqual(number, plain_least_join(book), book)
            told[number] += 1
        self.assertGreater(min(told.values()), 5, told)

    def test_books_that_windows_were_taken_from(self):
        rng = random.Random(8)
        for _ in range(120):
            size, letters = rng.choice([(2, "abcd"), (3, "ab"), (3, "abc"), (4, "ab"), (5, "ab")])
            ring = "".join(rng.choices(letters, k=rng.randint(4, 12)))
            windows = plain_windows(size, ring)
            kept = tuple(sorted(rng.sample(windows, max(1, len(windows) - rng.randint(1, 3)))))
            self.assertEqual(least_join((size, kept)), plain_least_join((size, kept)), kept)


class SpareBoundsTest(SoonTest):
    def books(self):
        """Books of up to forty windows, those of ring texts, and such that no ring text fits."""
        yield from books_at_the_bounds()
        rng = random.Random(9)
        for book in books_at_the_bounds():
            yield (book[0], tuple(sorted(rng.sample(book[1], len(book[1]) - 3))))
        yield (2, tuple(SMALL_LETTERS[at:at + 2] for at in range(25)))
        yield (3, tuple(sorted(one + "m" + other for one in "abcdef" for other in "tuvwxy")))
        yield (3, tuple(sorted("".join(row) for row in product("abcdefghijklmnopqrst", "mn", "z"))))
        yield (6, tuple(sorted("".join(row) for row in product("abc", repeat=6)))[::19])
        yield (4, tuple(sorted(["mabm", "abma", "bmab", "zzza"] + ["zz" + one + other for one in "abcdef"
                                                                 for other in "uvwxyz"])))
        for size in range(2, 7):
            ring = (SMALL_LETTERS + "zyxwvutsrqponmlk")[:41 if size > 2 else 26]
            yield (size, tuple(sorted(ring[at:at + size] for at in range(len(ring) - size + 1))))

    def test_books_of_forty_windows(self):
        told = {0: 0, 1: 0, 2: 0, None: 0}
        for book in self.books():
            self.assertLessEqual(len(book[1]), 40)
            number = least_join(book)
            self.assertEqual(number == 0, has_ring(book))
            told[number] += 1
            ring = round_ring(book)
            for lot in largest_lots(book):
                self.assertTrue(plain_ringed(lot))
                self.assertTrue(set(plain_windows(book[0], ring)) <= set(book[1]))
            self.assertEqual(ring is None, not largest_lots(book))
            self.assertIs(may_go(book, book[1][1:]), len(set(book[1][0])) == 1)
            self.assertIs(may_go(book, ()), has_ring(book))
            if has_ring(book):
                own = [window for window in book[1] if not plain_ringed(left_over(book, [window]))]
                self.assertEqual(needed(book), own)
                gone = rest(book)
                self.assertTrue(plain_ringed(left_over(book, gone)))
                self.assertFalse(set(gone) & set(own))
                self.assertEqual(needed((book[0], tuple(left_over(book, gone)))), left_over(book, gone))
        self.assertGreater(min(told.values()), 0, told)

    def test_a_long_round_ring(self):
        for size in range(3, 7):
            book, ring = cycle(size, 40)
            self.assertEqual(round_ring(book), min(ring[at:] + ring[:at] for at in range(40)))
            self.assertTrue(plain_fits(book, round_ring(book)))

    def test_join_of_forty_windows(self):
        for book in books_at_the_bounds():
            for gone in range(0, len(book[1]), 5):
                less = (book[0], book[1][:gone] + book[1][gone + 1:])
                told = 0 if has_ring(less) else 1
                self.assertLessEqual(least_join(less), told)
            self.assertEqual(joined((book[0], book[1][::2]), book[1][1::2]), book)


if __name__ == "__main__":
    unittest.main()

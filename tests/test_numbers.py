"""Point [33]: how many ring texts have told counts, and which is the n-th; fact N1."""

import random
import unittest
from itertools import product
from math import factorial, prod

from tests.helper import BOOK, NO_RING, SoonTest, odd_objects, pieces, plain_counts, plain_places, plain_readings
from tests.helper import plain_trees, plain_windows
from surepieces.books import least_turn
from surepieces.errors import InvalidBook, InvalidCounts, InvalidNumber, InvalidPiece, InvalidPlace, InvalidRing
from surepieces.errors import NoRingText, NotWithin
from surepieces.numbers import following, many, many_from, nth, place, rings_many, trees

COUNTS = (3, 2, 1, 2, 1)
LOOPED = (2, ("aa", "ab", "ba"))
FULL = (2, ("aa", "ab", "ba", "bb"))


def turns(ring):
    return sorted({ring[at:] + ring[:at] for at in range(len(ring))})


def told_books(seed, number, cases):
    """Books with counts and all readings that have them: some windows more than are read, with a count of 0."""
    rng = random.Random(seed)
    for size, letters, longest in cases:
        windows = ["".join(row) for row in product(letters, repeat=size)]
        found = plain_readings(size, letters, longest)
        for read in rng.sample(sorted(found), min(number, len(found))):
            more = rng.sample(windows, rng.randint(0, 3))
            own = tuple(sorted(set(read) | set(more)))
            yield (size, own), tuple(read.count(window) for window in own), found[read]


def plain_walks(book, counts):
    """All readings of at least as many letters as a window has, ascending, grown letter by letter."""
    front = list(book[1])
    while len(front[0]) < sum(counts):
        front = [text + window[-1] for text in front for window in book[1] if window[:-1] == text[1 - book[0]:]]
        front = [text for text in front if all(
            sum(text.startswith(window, at) for at in range(len(text))) <= count
            for window, count in zip(book[1], counts))]
    return sorted(text for text in front if plain_counts(book, text) == counts)


class ReadingsTest(unittest.TestCase):
    def hold(self, book, counts, readings):
        """All that is told of the readings is what a look at all of them finds."""
        self.assertEqual(readings, sorted(readings))
        self.assertEqual(many(book, counts), len(readings), (book, counts))
        self.assertEqual(rings_many(book, counts), len({min(turns(ring)) for ring in readings}), (book, counts))
        for number, ring in enumerate(readings):
            self.assertEqual(nth(book, counts, number), ring, (book, counts, number))
            self.assertEqual(place(book, counts, ring), number, (book, counts, ring))
            behind = readings[number + 1] if number + 1 < len(readings) else None
            self.assertEqual(following(book, counts, ring), behind, (book, counts, ring))
        for number in (len(readings), len(readings) + 1, 10 ** 40):
            self.assertIsNone(nth(book, counts, number))

    def hold_pieces(self, book, counts, readings, longest):
        for piece in pieces(book, longest):
            if len(piece) <= sum(counts):
                own = len([ring for ring in readings if ring.startswith(piece)])
                self.assertEqual(many_from(book, counts, piece), own, (book, counts, piece))
            else:
                self.assertRaises(InvalidPiece, many_from, book, counts, piece)

    def test_the_readings_of_the_book(self):
        rings = ["abcabcabd", "abcabdabc"]
        readings = sorted(turns(rings[0]))
        self.assertIn(rings[1], readings)
        self.hold(BOOK, COUNTS, readings)
        self.hold_pieces(BOOK, COUNTS, readings, 10)

    def test_small_counts(self):
        for book, counts, readings in told_books(1, 60, [(2, "ab", 8), (3, "ab", 8), (2, "abc", 6), (4, "ab", 7), (2, "abcd", 6)]):
            self.hold(book, counts, readings)
            self.hold_pieces(book, counts, readings, book[0] + 4)

    def test_windows_that_are_left_where_one_does_not_come_again(self):
        # Some of the ways on leave a loop behind at a place, or two places that lead to one another alone.
        for ring in ("abbccdde", "aabbccddee", "abcbcdede", "ababcdcdef", "aabbabccddcd"):
            book = (2, tuple(plain_windows(2, ring)))
            counts = plain_counts(book, ring)
            readings = plain_walks(book, counts)
            self.hold(book, counts, readings)
            self.hold_pieces(book, counts, readings, 5)

    def test_readings_shorter_than_the_windows(self):
        for book, counts, readings in told_books(2, 30, [(3, "ab", 2), (5, "ab", 4), (6, "ab", 5), (6, "abc", 3)]):
            self.hold(book, counts, readings)
            for piece in pieces(book, book[0] + 1):
                self.assertRaises(InvalidPiece, many_from, book, counts, piece)

    def test_equal_texts_are_one_reading(self):
        self.hold((2, ("aa",)), (5,), ["aaaaa"])
        self.hold((6, ("aaaaaa",)), (1,), ["a"])
        self.hold((6, ("ababab", "bababa")), (3, 3), ["ababab", "bababa"])
        self.hold((2, ("ab", "ba", "cc")), (4, 4, 0), ["abababab", "babababa"])

    def test_rings_that_are_texts_more_than_once(self):
        for book, counts, readings in told_books(3, 40, [(2, "ab", 4), (3, "ab", 4), (2, "abc", 3)]):
            for times in (2, 3):
                more = tuple(times * count for count in counts)
                total = rings_many(book, more)
                texts, number = [], many(book, more)
                if number < 400:
                    texts = [nth(book, more, at) for at in range(number)]
                    self.assertEqual(total, len({least_turn(text) for text in texts}), (book, more))
                for ring in readings:
                    self.assertEqual(nth(book, more, place(book, more, ring * times)), ring * times)

    def test_readings_between_and_beyond(self):
        counts = (6, 5, 5, 4)
        number = many(FULL, counts)
        texts = [nth(FULL, counts, at) for at in range(0, number, 7)]
        self.assertEqual(texts, sorted(set(texts)))
        for at, text in enumerate(texts):
            self.assertEqual(plain_counts(FULL, text), counts)
            self.assertEqual(place(FULL, counts, text), 7 * at)
        last = nth(FULL, counts, number - 1)
        self.assertIsNone(following(FULL, counts, last))
        self.assertIsNone(nth(FULL, counts, number))
        self.assertEqual(following(FULL, counts, nth(FULL, counts, number - 2)), last)

    def test_pieces_as_long_as_the_readings(self):
        readings = turns("abcabcabd")
        for ring in readings:
            self.assertEqual(many_from(BOOK, COUNTS, ring), 1)
        self.assertEqual(many_from(BOOK, COUNTS, "abcabcabc"), 0)
        self.assertEqual(many_from(BOOK, COUNTS, "abcabcab"), 1)
        self.assertEqual(many_from(BOOK, COUNTS, "bdabdab"), 0)
        for ring in readings:
            with self.assertRaises(InvalidPiece) as caught:
                many_from(BOOK, COUNTS, ring + ring[0])
            self.assertEqual(caught.exception.value, ring + ring[0])

    def test_pieces_with_windows_that_are_not_there(self):
        self.assertEqual(many_from(BOOK, (2, 2, 0, 2, 0), "bd"), 0)
        self.assertEqual(many_from(BOOK, (2, 2, 0, 2, 0), "bc"), 1)
        self.assertEqual(many_from(LOOPED, (0, 2, 2), "aa"), 0)
        self.assertRaises(InvalidPiece, many_from, BOOK, (2, 2, 0, 2, 0), "bb")

    def test_all_first_windows_come_to_all_readings(self):
        for book, counts, readings in told_books(4, 50, [(2, "ab", 8), (3, "ab", 8), (2, "abc", 6)]):
            if sum(counts) >= book[0]:
                self.assertEqual(sum(many_from(book, counts, window) for window in book[1]), len(readings))

    def test_counts_of_a_book_that_no_ring_text_fits(self):
        self.hold(NO_RING, (0, 2), ["bb"])
        self.hold((2, ("ab", "ba", "cd", "dc")), (0, 0, 2, 2), ["cdcd", "dcdc"])
        self.assertEqual(many_from(NO_RING, (0, 2), "bb"), 1)
        self.assertEqual(many_from(NO_RING, (0, 2), "ab"), 0)

    def test_kinds(self):
        for function, args in ((many, ()), (rings_many, ()), (many_from, ("abd",)), (place, ("abdabcabc",)),
                               (trees, ("a",))):
            self.assertIs(type(function(BOOK, COUNTS, *args)), int)
        self.assertIs(type(nth(BOOK, COUNTS, 0)), str)


class TreesTest(unittest.TestCase):
    def test_trees(self):
        self.assertEqual([trees(BOOK, COUNTS, spot) for spot in "abcd"], [6, 6, 6, 6])
        self.assertEqual(trees((2, ("aa",)), (7,), "a"), 1)
        self.assertEqual(trees((2, ("ab", "ba")), (5, 5), "b"), 5)
        self.assertEqual(trees(FULL, (2, 3, 3, 4), "a"), 3)

    def test_a_place_without_a_counted_window(self):
        self.assertEqual(trees(BOOK, (1, 1, 0, 1, 0), "d"), 0)
        self.assertEqual(trees(BOOK, (1, 1, 0, 1, 0), "a"), 1)
        self.assertEqual(trees(NO_RING, (0, 3), "a"), 0)
        self.assertEqual(trees(NO_RING, (0, 3), "b"), 1)

    def test_no_place(self):
        for value in odd_objects() + ["e", "ab", "aa", "A", ("a",), ["a"]]:
            with self.assertRaises(InvalidPlace) as caught:
                trees(BOOK, COUNTS, value)
            self.assertEqual(repr(caught.exception.value), repr(value))
        self.assertRaises(InvalidPlace, trees, (4, ("aabb", "abba", "baab", "bbaa")), (1, 1, 1, 1), "aa")
        self.assertEqual(trees((4, ("aabb", "abba", "baab", "bbaa")), (1, 1, 1, 1), "aab"), 1)

    def test_all_ways_to_choose(self):
        for book, counts, _ in told_books(5, 80, [(2, "ab", 8), (3, "ab", 8), (2, "abc", 7), (4, "ab", 8)]):
            for spot in plain_places(book):
                self.assertEqual(trees(book, counts, spot), plain_trees(book, counts, spot), (book, counts, spot))

    def test_larger_books(self):
        rng = random.Random(6)
        for _ in range(60):
            size, letters = rng.choice([(2, "abcd"), (2, "abcde"), (3, "ab"), (3, "abc")])
            ring = "".join(rng.choices(letters, k=rng.randint(6, 14)))
            book = (size, tuple(plain_windows(size, ring)))
            counts = plain_counts(book, ring * 3)
            if prod(max(1, len([w for w in book[1] if w[:-1] == spot])) for spot in plain_places(book)) < 5000:
                for spot in plain_places(book):
                    self.assertEqual(trees(book, counts, spot), plain_trees(book, counts, spot), (book, counts, spot))


class RefusalsTest(unittest.TestCase):
    """What test_refusals.py does not look at for all files alike."""

    def calls(self):
        return [(many, ()), (rings_many, ()), (many_from, ("ab",)), (nth, (0,)), (place, ("abcabcabd",)),
                (following, ("abcabcabd",)), (trees, ("a",))]

    def test_no_ring_text(self):
        two = (2, ("ab", "ba", "cd", "dc"))
        for book, counts in ((BOOK, (0, 0, 0, 0, 0)), (BOOK, (1, 1, 1, 1, 1)), (two, (1, 1, 1, 1)), (NO_RING, (1, 0)),
                             (BOOK, (10 ** 400, 1, 1, 1, 1)), (two, (10 ** 400,) * 4), ((2, ("ab",)), (1,))):
            for function, args in self.calls():
                with self.assertRaises(NoRingText) as caught:
                    function(book, counts, *args)
                self.assertEqual(caught.exception.value, counts)

    def test_each_error_stands_behind_those_ahead_of_it(self):
        for function, args in self.calls()[2:]:
            for wrong in (None, [[]], "e", -1):
                self.assertRaises(InvalidBook, function, (2, ["ab"]), (1,), wrong)
                self.assertRaises(InvalidCounts, function, BOOK, (1, 1), wrong)
                self.assertRaises(NoRingText, function, BOOK, (1, 1, 1, 1, 1), wrong)

    def test_numbers(self):
        for number in (-1, -10 ** 40):
            with self.assertRaises(InvalidNumber) as caught:
                nth(BOOK, COUNTS, number)
            self.assertEqual(caught.exception.value, number)
        self.assertIsNone(nth(BOOK, COUNTS, 9))
        self.assertIsNotNone(nth(BOOK, COUNTS, 8))

    def test_ring_texts_that_are_none_of_the_readings(self):
        for ring in ("abcabd", "abcabdabd", "abcabcab", "aaaaaaaaa", "xyz", "abcabcabdabcabcabd", "a", "abcabcacb"):
            for function in (place, following):
                with self.assertRaises(NotWithin) as caught:
                    function(BOOK, COUNTS, ring)
                self.assertEqual(caught.exception.value, ring)
        for ring in ("", "ABC", None, 7, ["abcabcabd"], "abcabcab "):
            for function in (place, following):
                self.assertRaises(InvalidRing, function, BOOK, COUNTS, ring)


class FactN1Test(unittest.TestCase):
    def hold(self, book, counts, number):
        used = {window: count for window, count in zip(book[1], counts) if count}
        for spot in plain_places((book[0], list(used))):
            told = sum(counts) * trees(book, counts, spot)
            for other in plain_places((book[0], list(used))):
                told *= factorial(sum(count for window, count in used.items() if window[:-1] == other) - 1)
            self.assertEqual(told % prod(factorial(count) for count in counts), 0)
            self.assertEqual(told // prod(factorial(count) for count in counts), number, (book, counts))

    def test_the_number_of_readings(self):
        for book, counts, readings in told_books(7, 120, [(2, "ab", 9), (3, "ab", 9), (2, "abc", 7), (4, "ab", 8)]):
            self.hold(book, counts, len(readings))
            self.assertEqual(many(book, counts), len(readings))

    def test_greater_counts(self):
        self.hold(BOOK, COUNTS, 9)
        for counts in ((30, 10, 10, 10), (10, 5, 5, 40), (1, 29, 29, 1)):
            self.hold(FULL, counts, many(FULL, counts))


class NumbersBoundsTest(SoonTest):
    def books(self):
        """Books of up to 16 windows with counts of 60 in all, some of them with one of 0."""
        rng = random.Random(8)
        for size, letters in ((2, "abcd"), (2, "abcdefgh"), (2, "abcdefghijklmnop"), (3, "ab"), (3, "abcd"), (4, "ab"),
                              (5, "ab"), (6, "ab"), (6, "abcdef")):
            while True:
                ring = "".join(rng.choices(letters, k=rng.randint(8, 20)))
                if 12 <= len(plain_windows(size, ring)) <= 16 or letters == "ab" and size == 3 and len(set(ring)) == 2:
                    break
            ring = (ring * 60)[:len(ring) * (60 // len(ring))]
            yield (size, tuple(plain_windows(size, ring))), ring
        yield (2, tuple(one + other for one in "abcd" for other in "abcd")), "aabacadbbcbdccdd" * 3 + "aabcdbcaaaaa"
        yield (2, tuple(plain_windows(2, "abcdefghijklmnop"))), "abcdefghijklmnop" * 3

    def test_counts_of_sixty(self):
        for book, ring in self.books():
            self.assertLessEqual(len(book[1]), 16)
            counts = plain_counts(book, ring)
            number = many(book, counts)
            for at in {0, number // 3, number // 2, number - 1}:
                text = nth(book, counts, at)
                self.assertEqual(plain_counts(book, text), counts)
                self.assertEqual(place(book, counts, text), at)
                self.assertEqual(following(book, counts, text), nth(book, counts, at + 1))
            self.assertEqual(nth(book, counts, place(book, counts, ring)), ring)
            self.assertEqual(sum(many_from(book, counts, window) for window in book[1]), number)
            for length in (book[0], 20, len(ring) - 1, len(ring)):
                self.assertGreaterEqual(many_from(book, counts, ring[:length]), 1)
            self.assertEqual(many_from(book, counts, ring), 1)
            self.assertRaises(InvalidPiece, many_from, book, counts, ring + ring[:1])
            self.assertTrue(number // len(ring) <= rings_many(book, counts) <= number)
            self.assertTrue(all(trees(book, counts, spot) >= 1 for spot in plain_places(book)))

    def test_ten_thousand(self):
        self.assertEqual([many((2, ("aa",)), (10 ** 4,)), rings_many((2, ("aa",)), (10 ** 4,))], [1, 1])
        self.assertEqual([many((2, ("ab", "ba")), (5000, 5000)), rings_many((2, ("ab", "ba")), (5000, 5000))], [2, 1])
        for book, ring in self.books():
            counts = plain_counts(book, ring)
            counts = tuple(count * (10 ** 4 // sum(counts)) for count in counts)
            number, total = many(book, counts), rings_many(book, counts)
            self.assertTrue(number // sum(counts) <= total <= number)
        whole = (2, tuple(one + other for one in "abcd" for other in "abcd"))
        self.assertGreater(rings_many(whole, (625,) * 16), 10 ** 4000)

    def test_rings_of_prime_length_have_as_many_readings_as_letters(self):
        for counts in ((3, 2, 2, 4), (20, 13, 13, 13), (1, 4998, 4998, 10)):
            self.assertEqual(rings_many(FULL, counts) * sum(counts), many(FULL, counts))


if __name__ == "__main__":
    unittest.main()

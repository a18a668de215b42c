"""Point [35]: a Live, its deeds and looks."""

import random
import unittest
from itertools import product

from tests.helper import BOOK, NO_RING, SMALL_LETTERS, SoonTest, assert_refused, books_at_the_bounds, odd_objects
from surepieces import books, longest, shortest, spare, sure
from surepieces.errors import Empty, Endless, InvalidPiece, InvalidSize, InvalidWindows, NoRing, Nothing
from surepieces.live import Live

CYCLE = (2, ("ab", "bc", "ca"))
# The looks that ask the book, with their arguments and the functions that they are.
LOOKS = [
    ("is_sure", ("cabd",), sure.is_sure), ("is_sure", ("cabc",), sure.is_sure), ("shortest", (), shortest.shortest),
    ("needed", (), spare.needed), ("longest", (), longest.longest), ("has_ring", (), books.has_ring),
]


def state(live):
    return [live.size, live.windows, live.story, len(live)]


def outcome(function, *args):
    """What a call returns, or its error and that one's value."""
    try:
        return function(*args)
    except ValueError as error:
        return type(error), error.value


class LiveTest(unittest.TestCase):
    def test_a_new_one(self):
        live = Live(*BOOK)
        self.assertEqual(state(live), [2, BOOK[1], (), 5])
        self.assertEqual(live.book(), BOOK)
        self.assertEqual(state(Live(size=3, windows=("abc",))), [3, ("abc",), (), 1])
        self.assertEqual(state(Live(windows=("abc", "bcd"), size=3)), [3, ("abc", "bcd"), (), 2])

    def test_without_a_window(self):
        live = Live(2, ())
        self.assertEqual(state(live), [2, (), (), 0])
        self.assertIs(live.has_ring(), False)
        for look in (live.book, live.shortest, live.needed, live.longest):
            assert_refused(self, Empty, None, look)
        for piece in ("ab", "x", None, [["ab"]], ""):
            assert_refused(self, Empty, None, live.is_sure, piece)
        self.assertIsNone(live.put("aa"))
        self.assertEqual([live.book(), live.has_ring(), live.shortest()], [(2, ("aa",)), True, 1])
        live.take("aa")
        assert_refused(self, Empty, None, live.book)
        self.assertIs(live.has_ring(), False)

    def test_kinds(self):
        live = Live(*BOOK)
        live.put("cc")
        self.assertEqual([type(part) for part in state(live)], [int, tuple, tuple, int])
        self.assertEqual([type(live.book()), type(live.story[0]), type(live.needed()), type(live.longest())],
                         [tuple, tuple, list, list])

    def test_put_and_take(self):
        live = Live(*BOOK)
        self.assertIsNone(live.put("ac"))
        self.assertIsNone(live.take("bc"))
        self.assertIsNone(live.put(window="zz"))
        self.assertIsNone(live.take(window="zz"))
        self.assertIsNone(live.put("bc"))
        self.assertEqual(live.windows, ("ab", "ac", "bc", "bd", "ca", "da"))
        self.assertEqual(live.story, (("put", "ac"), ("take", "bc"), ("put", "zz"), ("take", "zz"), ("put", "bc")))
        self.assertEqual(len(live), 6)

    def test_back(self):
        live = Live(*BOOK)
        live.put("ac")
        live.take("bc")
        self.assertEqual(live.back(), "take")
        self.assertEqual(state(live), [2, ("ab", "ac", "bc", "bd", "ca", "da"), (("put", "ac"),), 6])
        self.assertEqual(live.back(), "put")
        self.assertEqual(state(live), [2, BOOK[1], (), 5])
        assert_refused(self, Nothing, None, live.back)
        self.assertEqual(state(live), [2, BOOK[1], (), 5])
        live.put("xx")
        self.assertEqual([live.back(), live.story], ["put", ()])

    def test_what_a_live_is_made_of_is_no_deed(self):
        for live in (Live(*BOOK), Live(4, ()), Live(2, ("ab",)).twin()):
            assert_refused(self, Nothing, None, live.back)

    def test_what_is_told_before_stays(self):
        live = Live(*BOOK)
        windows, story, book = live.windows, live.story, live.book()
        live.put("aa")
        live.take("ab")
        self.assertEqual([windows, story, book], [BOOK[1], (), BOOK])
        one, other = live.longest() if live.has_ring() else [], live.windows
        live.back()
        self.assertEqual(other, ("aa", "bc", "bd", "ca", "da"))
        self.assertEqual(one, [])

    def test_looks(self):
        live = Live(*BOOK)
        self.assertIs(live.is_sure("cabd"), True)
        self.assertIs(live.is_sure(piece="cabc"), False)
        self.assertEqual([live.shortest(), live.needed(), live.longest()],
                         [6, ["ab", "bc", "bd", "ca", "da"], ["abcabdab", "abdabcab"]])
        live.take("bd")
        self.assertIs(live.has_ring(), False)
        live.take("da")
        self.assertEqual([live.has_ring(), live.shortest(), live.needed()], [True, 3, ["ab", "bc", "ca"]])
        self.assertRaises(Endless, live.longest)

    def test_looks_are_as_the_functions(self):
        for book in (BOOK, NO_RING, CYCLE, (2, ("aa", "ab", "ba")), (2, ("ab",)), (3, ("aab", "aba", "baa"))):
            live = Live(*book)
            for word, args, function in LOOKS:
                self.assertEqual(outcome(getattr(live, word), *args), outcome(function, book, *args), (book, word))

    def test_errors_of_looks(self):
        live = Live(*NO_RING)
        for look in (live.shortest, live.needed, live.longest):
            assert_refused(self, NoRing, NO_RING, look)
        assert_refused(self, NoRing, NO_RING, live.is_sure, [["x"]])
        live = Live(*BOOK)
        for piece in odd_objects() + ["a", "ac", "abca ", "ba"]:
            if piece != "ab":
                assert_refused(self, InvalidPiece, piece, live.is_sure, piece)
                assert_refused(self, InvalidPiece, piece, live.is_sure, piece=piece)
        assert_refused(self, Endless, CYCLE, Live(*CYCLE).longest)

    def test_each_list_that_is_told_is_new(self):
        live = Live(*BOOK)
        for look in (live.needed, live.longest):
            one, other = look(), look()
            one.append("z")
            one[0] = "y"
            self.assertEqual([look(), one is other], [other, False])


class RefusedTest(unittest.TestCase):
    def test_faulty_sizes(self):
        for size in odd_objects() + [7, 1, "2", (2,), [2], [[3], [4]]]:
            for windows in ((), ("ab",), None, [["ab"]]):
                assert_refused(self, InvalidSize, size, Live, size, windows)
                assert_refused(self, InvalidSize, size, Live, windows=windows, size=size)

    def test_faulty_windows(self):
        wrong = [["ab"], [], "", "ab", ("bc", "ab"), ("ab", "ab"), ("ab", "abc"), ("a",), ("",), ("AB",), ("a ",),
                 ("ab", None), ("ab", ["bc"]), {"ab": 1}, {"ab"}, (b"ab",), (("ab",),), BOOK, ("ab\n",)]
        for windows in wrong + odd_objects():
            assert_refused(self, InvalidWindows, windows, Live, 2, windows)
            assert_refused(self, InvalidWindows, windows, Live, size=2, windows=windows)
        assert_refused(self, InvalidWindows, ("ab",), Live, 3, ("ab",))
        assert_refused(self, InvalidWindows, ("abc", "abd"), Live, 2, ("abc", "abd"))

    def test_refused_deeds_change_nothing(self):
        live = Live(*BOOK)
        live.put("cc")
        before = state(live)
        for window in odd_objects() + ["a", "abc", "aB", "a ", ("ab",), ["aa"], ["ab"], "a\n", [["zz"]]]:
            if window != "ab":
                for deed in (live.put, live.take):
                    assert_refused(self, InvalidPiece, window, deed, window)
                    assert_refused(self, InvalidPiece, window, deed, window=window)
                    self.assertEqual(state(live), before)
        for window in BOOK[1] + ("cc",):
            assert_refused(self, InvalidPiece, window, live.put, window)
        for window in ("aa", "zz", "ac"):
            assert_refused(self, InvalidPiece, window, live.take, window)
        self.assertEqual(state(live), before)
        self.assertEqual([live.back(), live.windows], ["put", BOOK[1]])

    def test_refused_looks_change_nothing(self):
        live = Live(*NO_RING)
        live.put("cc")
        before = state(live)
        for look in (live.shortest, live.needed, live.longest):
            self.assertRaises(NoRing, look)
        self.assertEqual(state(live), before)


class TwinTest(unittest.TestCase):
    def test_a_twin_can_take_all_back(self):
        live = Live(*BOOK)
        live.put("ac")
        live.take("bd")
        twin = live.twin()
        self.assertEqual(state(twin), state(live))
        self.assertIs(type(twin), Live)
        self.assertEqual([twin.back(), twin.back()], ["take", "put"])
        self.assertEqual(state(twin), [2, BOOK[1], (), 5])
        assert_refused(self, Nothing, None, twin.back)
        self.assertEqual(state(live), [2, ("ab", "ac", "bc", "ca", "da"), (("put", "ac"), ("take", "bd")), 5])

    def test_each_goes_on_by_itself(self):
        live = Live(*BOOK)
        live.put("ac")
        twin = live.twin()
        twin.take("ab")
        self.assertEqual(state(live), [2, ("ab", "ac", "bc", "bd", "ca", "da"), (("put", "ac"),), 6])
        live.put("zz")
        live.put("zy")
        self.assertEqual(state(twin), [2, ("ac", "bc", "bd", "ca", "da"), (("put", "ac"), ("take", "ab")), 5])
        third = twin.twin()
        twin.back()
        self.assertEqual(third.story, (("put", "ac"), ("take", "ab")))
        self.assertEqual([twin == third, live == twin], [False, False])

    def test_a_twin_without_a_window(self):
        live = Live(3, ("abc",))
        live.take("abc")
        twin = live.twin()
        self.assertEqual([twin.back(), len(twin), len(live)], ["take", 1, 0])


class EqualTest(unittest.TestCase):
    def test_equal(self):
        live = Live(*BOOK)
        self.assertIs(live == Live(*BOOK), True)
        self.assertIs(live != Live(*BOOK), False)
        self.assertIs(live == live.twin(), True)
        live.put("zz")
        self.assertIs(live == Live(*BOOK), False)
        self.assertIs(live != Live(*BOOK), True)
        live.take("zz")
        self.assertIs(live == Live(*BOOK), True)
        self.assertIs(Live(*BOOK) == live, True)

    def test_sizes(self):
        self.assertIs(Live(2, ()) == Live(3, ()), False)
        self.assertIs(Live(2, ()) == Live(2, ()), True)

    def test_what_is_no_live(self):
        live = Live(*BOOK)
        for other in odd_objects() + [BOOK, BOOK[1], "2: ab bc bd ca da", Live]:
            self.assertIs(live == other, False)
            self.assertIs(live != other, True)


class RandomDeedsTest(unittest.TestCase):
    def test_many_deeds(self):
        for seed in range(12):
            rng = random.Random(seed)
            size, letters = rng.choice([(2, "abc"), (3, "ab"), (2, "abcd")])
            texts = ["".join(row) for row in product(letters, repeat=size)]
            windows, story = set(rng.sample(texts, 3)), []
            live = Live(size, tuple(sorted(windows)))
            for _ in range(150):
                word, window = rng.choice(["put", "put", "take", "back", "twin"]), rng.choice(texts)
                told = outcome(getattr(live, word), *([window] if word in ("put", "take") else []))
                if word == "twin":
                    live.put("z" * size)
                    live = told
                elif word == "back":
                    self.assertEqual(told, story[-1][0] if story else (Nothing, None))
                    if story:
                        windows ^= {story.pop()[1]}
                elif (window in windows) == (word == "put"):
                    self.assertEqual(told, (InvalidPiece, window))
                else:
                    windows ^= {window}
                    story.append((word, window))
                    self.assertIsNone(told)
                book = (size, tuple(sorted(windows)))
                self.assertEqual(state(live), [size, book[1], tuple(story), len(windows)])
                for look, args, function in LOOKS if windows else []:
                    self.assertEqual(outcome(getattr(live, look), *args), outcome(function, book, *args))


class LiveBoundsTest(SoonTest):
    def test_books_of_forty_windows(self):
        for book in books_at_the_bounds():
            live = Live(*book)
            self.assertEqual([live.has_ring(), live.shortest()], [True, shortest.shortest(book)])
            self.assertEqual(live.needed(), spare.needed(book))
            self.assertIs(live.is_sure(book[1][0]), True)
            for window in book[1]:
                live.take(window)
                self.assertEqual(live.has_ring(), len(live) > 0 and books.has_ring(live.book()))
            self.assertEqual([len(live), len(live.story)], [0, len(book[1])])
            for _ in book[1]:
                self.assertEqual(live.back(), "take")
            self.assertEqual([live.book(), live.story], [book, ()])

    def test_many_deeds(self):
        live = Live(2, ())
        for at in range(2000):
            window = SMALL_LETTERS[at % 26] * 2
            if at % 52 < 26:
                live.put(window)
            else:
                live.take(window)
        self.assertEqual(len(live.story), 2000)
        twin = live.twin()
        for _ in range(2000):
            twin.back()
        self.assertEqual([len(twin), len(live.story)], [0, 2000])


if __name__ == "__main__":
    unittest.main()

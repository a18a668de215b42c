"""Points [2] and [3]: what is refused, by which error, in which order, and what the error holds."""

import unittest

from tests.helper import BOOK, NO_RING, assert_refused, faulty_books, faulty_bounds, faulty_costs, faulty_counts
from tests.helper import odd_objects
from surepieces.books import closed_lot, fits, has_ring, is_closed_lot, is_piece, least_turn, places, ring_windows
from surepieces.books import is_book, is_ring, some_ring, stands_in, way, windows_of
from surepieces.counts import balance, bar, bar_holds, counts_between, counts_of, least_of, most_of, ring_of
from surepieces.errors import Endless, InvalidBook, InvalidBounds, InvalidCosts, InvalidCounts, InvalidNumber
from surepieces.errors import InvalidPiece, InvalidPlace, InvalidRing, InvalidSize, InvalidWindows, NoRing, NoRingText
from surepieces.errors import NotBalanced, NotWithin
from surepieces.longest import is_endless, longer, longest, longest_with, plain_pieces
from surepieces.numbers import following, many, many_from, nth, place, rings_many, trees
from surepieces.several import fewest, needed, one_is_sure, without_all
from surepieces.shortest import best_counts, best_ring, cheaper, is_best, least_cost, prices, prices_hold, shortest
from surepieces.spare import joined, largest_lots, least_join, may_go, needed as needed_windows, rest, round_ring
from surepieces.sure import is_leaving, is_sure, leaving, paper_holds, sure_paper, without

BOUNDS = ((3, 4), (1, 9), (1, 1), (0, 9), (0, 9))
ONES = (1, 1, 1, 1, 1)
COUNTS = (3, 2, 1, 2, 1)

# Each function with right arguments, by the names of its parameters in their sequence.
BOOKS_CALLS = [
    (is_piece, {"book": BOOK, "value": "ab"}),
    (places, {"book": BOOK}),
    (fits, {"book": BOOK, "ring": "abcabd"}),
    (way, {"book": BOOK, "one": "bc", "other": "da"}),
    (has_ring, {"book": BOOK}),
    (some_ring, {"book": BOOK}),
    (closed_lot, {"book": BOOK}),
    (is_closed_lot, {"book": BOOK, "value": ("a",)}),
]
SURE_CALLS = [
    (is_sure, {"book": BOOK, "piece": "cabd"}),
    (leaving, {"book": BOOK, "piece": "cabd"}),
    (is_leaving, {"book": BOOK, "piece": "cabd", "value": (1, 2, "bda")}),
    (without, {"book": BOOK, "piece": "cabd"}),
    (sure_paper, {"book": BOOK, "piece": "cabd"}),
    (paper_holds, {"book": BOOK, "piece": "cabd", "value": ()}),
]
LONGEST_CALLS = [
    (is_endless, {"book": BOOK}),
    (longer, {"book": BOOK, "piece": "cabd"}),
    (longest, {"book": BOOK}),
    (longest_with, {"book": BOOK, "window": "ca"}),
    (plain_pieces, {"book": BOOK}),
]
SEVERAL_CALLS = [
    (one_is_sure, {"book": BOOK, "pieces": ["cabc", "cabd"]}),
    (without_all, {"book": BOOK, "pieces": ["cabc", "abcabc"]}),
    (needed, {"book": BOOK, "pieces": ["cabc", "cabd"]}),
    (fewest, {"book": BOOK, "pieces": ["cabc", "cabd"]}),
]
COUNTS_CALLS = [
    (counts_of, {"book": BOOK, "ring": "abcabd"}),
    (balance, {"book": BOOK, "counts": (2, 1, 1, 1, 1)}),
    (ring_of, {"book": BOOK, "counts": (2, 1, 1, 1, 1)}),
    (counts_between, {"book": BOOK, "bounds": BOUNDS}),
    (bar, {"book": BOOK, "bounds": BOUNDS}),
    (bar_holds, {"book": BOOK, "bounds": BOUNDS, "value": ("a",)}),
    (most_of, {"book": BOOK, "bounds": BOUNDS, "window": "ca"}),
    (least_of, {"book": BOOK, "bounds": BOUNDS, "window": "ca"}),
]
SHORTEST_CALLS = [
    (least_cost, {"book": BOOK, "costs": ONES}),
    (best_counts, {"book": BOOK, "costs": ONES}),
    (best_ring, {"book": BOOK, "costs": ONES}),
    (shortest, {"book": BOOK}),
    (prices, {"book": BOOK, "costs": ONES}),
    (prices_hold, {"book": BOOK, "costs": ONES, "cost": 6, "value": (1, 0, 1, 1)}),
    (is_best, {"book": BOOK, "costs": ONES, "counts": COUNTS}),
    (cheaper, {"book": BOOK, "costs": ONES, "counts": COUNTS}),
]
NUMBERS_CALLS = [
    (many, {"book": BOOK, "counts": COUNTS}),
    (many_from, {"book": BOOK, "counts": COUNTS, "piece": "abd"}),
    (rings_many, {"book": BOOK, "counts": COUNTS}),
    (nth, {"book": BOOK, "counts": COUNTS, "number": 3}),
    (place, {"book": BOOK, "counts": COUNTS, "ring": "abdabcabc"}),
    (following, {"book": BOOK, "counts": COUNTS, "ring": "abdabcabc"}),
    (trees, {"book": BOOK, "counts": COUNTS, "place": "a"}),
]
SPARE_CALLS = [
    (may_go, {"book": BOOK, "windows": ("bd", "da")}),
    (largest_lots, {"book": BOOK}),
    (round_ring, {"book": BOOK}),
    (joined, {"book": BOOK, "more": ("aa", "zz")}),
    (least_join, {"book": BOOK}),
]
SPARE_RINGED_CALLS = [(needed_windows, {"book": BOOK}), (rest, {"book": BOOK})]
OTHER_CALLS = [
    (windows_of, {"size": 2, "text": "abc"}),
    (ring_windows, {"size": 2, "ring": "abc"}),
    (stands_in, {"ring": "abc", "piece": "ab"}),
    (least_turn, {"ring": "abc"}),
]
# Those that refuse a book that no ring text fits.
RINGED_CALLS = SURE_CALLS + LONGEST_CALLS + SEVERAL_CALLS + SHORTEST_CALLS + SPARE_RINGED_CALLS
BOOK_CALLS = BOOKS_CALLS + RINGED_CALLS + COUNTS_CALLS + NUMBERS_CALLS + SPARE_CALLS
CALLS = BOOK_CALLS + OTHER_CALLS

# What each parameter is refused by; one called value is judged, and a cost is any integer: these are not refused.
ERRORS = {
    "book": InvalidBook, "ring": InvalidRing, "size": InvalidSize, "text": InvalidRing, "piece": InvalidPiece,
    "one": InvalidPiece, "other": InvalidPiece, "window": InvalidPiece, "pieces": InvalidPiece,
    "counts": InvalidCounts, "bounds": InvalidBounds, "costs": InvalidCosts, "number": InvalidNumber,
    "place": InvalidPlace, "windows": InvalidWindows, "more": InvalidWindows,
}


def put(named, **other):
    """Arguments with others in the place of those of these names."""
    return {name: other.get(name, value) for name, value in named.items()}


class RefusalsTest(unittest.TestCase):
    def refuses(self, error, value, function, named):
        """The call raises the error by position, by name, and by name the other way round."""
        assert_refused(self, error, value, function, *named.values())
        assert_refused(self, error, value, function, **named)
        assert_refused(self, error, value, function, **dict(reversed(list(named.items()))))

    def test_right_arguments_are_taken_by_position_and_by_name(self):
        for function, named in CALLS + [(is_book, {"value": BOOK}), (is_ring, {"value": "a"})]:
            self.assertEqual(function(*named.values()), function(**named))

    def test_faulty_books(self):
        for function, named in BOOK_CALLS:
            for book in faulty_books():
                self.refuses(InvalidBook, book, function, put(named, book=book))

    def test_faulty_ring_texts(self):
        for function, named in CALLS:
            if "ring" in named:
                for ring in odd_objects() + ["ab ", "abcA", ("a", "b"), ["a"]]:
                    self.refuses(InvalidRing, ring, function, put(named, ring=ring))

    def test_faulty_pieces_of_the_book(self):
        for function, named in SURE_CALLS + [(longer, {"book": BOOK, "piece": "cabd"}), NUMBERS_CALLS[1]]:
            for piece in odd_objects() + ["a", "b", "ac", "abca ", "abdc", "ba", ("ab",), ["ab"], "abCa", "xyz"]:
                self.refuses(InvalidPiece, piece, function, put(named, piece=piece))

    def test_faulty_objects_in_a_list_of_pieces(self):
        for piece in odd_objects() + ["a", "ac", "abca ", "abdc", "ba", ("ab",), ["ab"], "abCa", "xyz", ["ab", ["ab"]]]:
            for function, _ in SEVERAL_CALLS:
                for pieces in ([piece], [piece, "cabd"], ["cabc", piece], ["ab"] * 5 + [piece], ["ab", piece, "xx"],
                               [piece, ["y"]]):
                    self.refuses(InvalidPiece, piece, function, {"book": BOOK, "pieces": pieces})

    def test_the_first_object_that_is_no_piece_is_refused(self):
        for function, _ in SEVERAL_CALLS:
            for pieces, first in ((["ab", "xx", "yy"], "xx"), (["yy", "xx"], "yy"), (["ab", ["x"], "xx"], ["x"])):
                self.refuses(InvalidPiece, first, function, {"book": BOOK, "pieces": pieces})

    def test_pieces_that_are_shorter_than_a_window(self):
        book = (4, ("aabb", "abba", "baab", "bbaa"))
        for piece in ("a", "aa", "aab", "abb"):
            for function, named in SURE_CALLS + [(longer, {"book": BOOK, "piece": "cabd"})]:
                self.refuses(InvalidPiece, piece, function, put(named, book=book, piece=piece))
            for function, named in SEVERAL_CALLS:
                self.refuses(InvalidPiece, piece, function, {"book": book, "pieces": ["aabb", piece]})

    def test_faulty_windows(self):
        for window in odd_objects() + ["a", "abc", "ac", "ba", "xy", ("ab",), ["ab"], "cabd"]:
            for function, named in ((longest_with, {"book": BOOK, "window": "ca"}), *COUNTS_CALLS[-2:]):
                self.refuses(InvalidPiece, window, function, put(named, window=window))

    def test_faulty_counts(self):
        for function, named in CALLS:
            if "counts" in named:
                for counts in faulty_counts(5):
                    self.refuses(InvalidCounts, counts, function, put(named, counts=counts))

    def test_faulty_costs(self):
        for function, named in SHORTEST_CALLS:
            if "costs" in named:
                for costs in faulty_costs(5):
                    self.refuses(InvalidCosts, costs, function, put(named, costs=costs))

    def test_counts_that_do_not_balance_or_have_a_0(self):
        for function, named in SHORTEST_CALLS[-2:]:
            for counts in (ONES, (2, 2, 0, 2, 0), (0, 0, 0, 0, 0)):
                self.refuses(NotBalanced, counts, function, put(named, counts=counts))

    def test_counts_of_no_ring_text(self):
        for function, named in NUMBERS_CALLS:
            for counts in (ONES, (0, 0, 0, 0, 0), (1, 0, 0, 0, 0)):
                self.refuses(NoRingText, counts, function, put(named, counts=counts))

    def test_faulty_numbers_and_places(self):
        for number in (-1, -2, -10 ** 40):
            self.refuses(InvalidNumber, number, nth, {"book": BOOK, "counts": COUNTS, "number": number})
        for spot in odd_objects() + ["ba", "e", ("a",), ["a"], "A", ["a", ["b"]]]:
            self.refuses(InvalidPlace, spot, trees, {"book": BOOK, "counts": COUNTS, "place": spot})

    def test_pieces_longer_than_the_readings(self):
        self.assertEqual(many_from(BOOK, COUNTS, "abcabcabd"), 1)
        for piece in ("abcabcabda", "abcabcabcabc"):
            self.refuses(InvalidPiece, piece, many_from, {"book": BOOK, "counts": COUNTS, "piece": piece})

    def test_faulty_tuples_of_windows(self):
        wrong = [["bd"], ("da", "bd"), ("bd", "bd"), BOOK[1], (["bd"],), ("bd", ["da"]), [["bd"]]]
        for windows in odd_objects() + wrong:
            self.refuses(InvalidWindows, windows, may_go, {"book": BOOK, "windows": windows})
        wrong = [["aa"], ("zz", "aa"), ("aa", "aa"), ("ab",), (["aa"],), ("aa", ["zz"]), [["aa"]]]
        for more in odd_objects() + wrong:
            self.refuses(InvalidWindows, more, joined, {"book": BOOK, "more": more})

    def test_faulty_bounds(self):
        for bounds in faulty_bounds(5):
            for function, named in COUNTS_CALLS[3:]:
                self.refuses(InvalidBounds, bounds, function, put(named, bounds=bounds))

    def test_ring_texts_that_are_none_of_the_readings(self):
        for ring in ("abcabd", "a", "xyz", "abcabcabc"):
            for function in (place, following):
                self.refuses(NotWithin, ring, function, {"book": BOOK, "counts": COUNTS, "ring": ring})

    def test_ring_texts_with_other_windows(self):
        for ring in ("abcab", "a", "xyz"):
            self.refuses(NotWithin, ring, counts_of, {"book": BOOK, "ring": ring})
        self.refuses(NotWithin, "ab", counts_of, {"book": NO_RING, "ring": "ab"})

    def test_endless_books(self):
        for book in ((2, ("ab", "bc", "ca")), (2, ("aa",)), (3, ("aba", "bab"))):
            for function, named in LONGEST_CALLS[2:]:
                for window in (book[1][0], "xx", None, ["ab"], [[]]):
                    self.refuses(Endless, book, function, put(named, book=book, window=window))
            self.assertIs(is_endless(book), True)
            self.assertTrue(longer(book, book[1][0]))
            self.refuses(InvalidPiece, ["xx"], longer, {"book": book, "piece": ["xx"]})

    def test_faulty_texts_to_stand_in(self):
        for piece in odd_objects() + ["ab ", ["a"], ("a",), "aBc"]:
            self.refuses(InvalidPiece, piece, stands_in, {"ring": "abc", "piece": piece})

    def test_faulty_windows_to_go_from_and_to(self):
        faulty = odd_objects() + ["a", "abc", "ac", "ba", "xy", ("ab",), ["ab"]]
        for window in faulty:
            self.refuses(InvalidPiece, window, way, {"book": BOOK, "one": window, "other": "da"})
            self.refuses(InvalidPiece, window, way, {"book": BOOK, "one": "bc", "other": window})

    def test_faulty_sizes(self):
        faulty = [size for size in odd_objects() if size is not None] + [None, "2", (2,), [2], [[3], [4]]]
        for size in faulty:
            self.refuses(InvalidSize, size, windows_of, {"size": size, "text": "abc"})
            self.refuses(InvalidSize, size, ring_windows, {"size": size, "ring": "abc"})

    def test_faulty_texts_to_look_for_windows_in(self):
        for text in odd_objects() + [["a"], ("a",), "ab ", "Ab"]:
            if text != "":
                self.refuses(InvalidRing, text, windows_of, {"size": 2, "text": text})

    def test_books_that_no_ring_text_fits(self):
        for book in (NO_RING, (2, ("ab",)), (3, ("aba",)), (2, ("aa", "bb")), (2, ("ab", "ba", "bc"))):
            first = book[1][0]
            for function, named in RINGED_CALLS:
                self.refuses(NoRing, book, function, put(named, book=book, piece=first, window=first, pieces=[first]))

    def test_two_wrong_ones_are_refused_by_the_first(self):
        for function, named in CALLS:
            names = [name for name in named if name not in ("value", "cost")]
            for at, first in enumerate(names):
                wrong = -1 if first == "number" else ["A", []]
                value = wrong[0] if first == "pieces" else wrong
                self.refuses(ERRORS[first], value, function, put(named, **{first: wrong}))
                for last in list(named)[at + 1:]:
                    self.refuses(ERRORS[first], value, function, put(named, **{first: wrong, last: ["B", []]}))
                everything = {name: ["B", []] for name in list(named)[at + 1:]}
                self.refuses(ERRORS[first], value, function, put(named, **{first: wrong, **everything}))

    def test_two_wrong_windows_are_refused_by_the_first(self):
        self.refuses(InvalidPiece, "xx", way, {"book": BOOK, "one": "xx", "other": "yy"})
        self.refuses(InvalidPiece, ["x"], way, {"book": BOOK, "one": ["x"], "other": ["y"]})

    def test_no_ring_stands_behind_invalid_book_and_ahead_of_invalid_piece(self):
        for function, named in RINGED_CALLS:
            for piece in ("xx", None, [["ab"]], "ba"):
                other = put(named, piece=piece, window=piece, pieces=[piece], costs=piece, counts=piece)
                self.refuses(NoRing, NO_RING, function, put(other, book=NO_RING))
                self.refuses(InvalidBook, (2, ["ab"]), function, put(other, book=(2, ["ab"])))

    def test_no_ring_is_for_some_files_alone(self):
        right = {"book": NO_RING, "value": ("b",), "ring": "bb", "one": "ab", "other": "bb", "window": "bb",
                 "counts": (0, 2), "bounds": ((0, 1), (1, 2)), "piece": "bb", "number": 0, "place": "b",
                 "windows": ("ab",), "more": ("ba",)}
        for function, named in BOOKS_CALLS + COUNTS_CALLS + NUMBERS_CALLS + SPARE_CALLS:
            function(**{name: right[name] if name != "value" else ("b",) for name in named})

    def test_what_is_judged_is_refused_by_none(self):
        for value in odd_objects() + faulty_books():
            before = repr(value)
            self.assertIs(is_ring(value), value == "ab")
            self.assertIs(is_book(value), False)
            self.assertIs(is_piece(BOOK, value), value == "ab")
            self.assertIs(is_closed_lot(BOOK, value), False)
            self.assertIs(is_leaving(BOOK, "cabc", value), False)
            self.assertIs(paper_holds(BOOK, "cabd", value), False)
            self.assertIs(bar_holds(BOOK, BOUNDS, value), False)
            self.assertIs(prices_hold(BOOK, ONES, 6, value), False)
            self.assertEqual(repr(value), before)

    def test_dicts_and_sets_in_a_refused_object_are_as_they_were(self):
        for book in ({"a": ["b"]}, [{"a": ["b"]}, {1, 2}], (2, {"ab": ("a", ["b"])})):
            assert_refused(self, InvalidBook, book, places, book)


class ListsTest(unittest.TestCase):
    def test_each_list_that_is_returned_is_new(self):
        for function, args in ((places, (BOOK,)), (windows_of, (2, "abcab")), (ring_windows, (2, "abcabd")),
                               (longer, (BOOK, "ab")), (longest, (BOOK,)), (longest_with, (BOOK, "ca")),
                               (plain_pieces, (BOOK,)), (needed, (BOOK, ["cabc", "cabd"])), (needed_windows, (BOOK,)),
                               (largest_lots, (BOOK,))):
            one = function(*args)
            other = function(*args)
            self.assertIs(type(one), list)
            self.assertEqual(one, other)
            self.assertIsNot(one, other)
            one.append("z")
            one[0] = "y"
            self.assertEqual(function(*args), other)

    def test_equal_arguments_give_equal_values(self):
        for function, named in CALLS:
            copied = {name: eval(repr(value)) for name, value in named.items()}
            self.assertEqual(function(**named), function(**copied))
            self.assertEqual(repr(function(**named)), repr(function(**copied)))

    def test_what_is_told_whether_is_true_or_false(self):
        for function in (is_piece, fits, has_ring, is_closed_lot, is_sure, is_leaving, paper_holds, stands_in,
                         is_endless, one_is_sure, balance, bar_holds, prices_hold, is_best, may_go):
            named = dict(CALLS_BY_NAME[function.__name__])
            self.assertIn(type(function(**named)), (bool,))

    def test_a_list_of_pieces_stays_as_it_was(self):
        for function, named in SEVERAL_CALLS:
            pieces = list(named["pieces"])
            function(BOOK, pieces)
            self.assertEqual(pieces, named["pieces"])


CALLS_BY_NAME = {function.__name__: named for function, named in CALLS}


if __name__ == "__main__":
    unittest.main()

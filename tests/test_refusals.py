"""Points [2] and [3]: what is refused, by which error, in which order, and what the error holds."""

import unittest

from tests.helper import BOOK, NO_RING, assert_refused, faulty_books, odd_objects
from surepieces.books import closed_lot, fits, has_ring, is_closed_lot, is_piece, least_turn, places, ring_windows
from surepieces.books import is_book, is_ring, some_ring, stands_in, way, windows_of
from surepieces.errors import InvalidBook, InvalidPiece, InvalidRing, InvalidSize, NoRing
from surepieces.sure import is_leaving, is_sure, leaving, paper_holds, sure_paper, without

# Each function with right arguments, by the names of its parameters in their sequence.
BOOKS_CALLS = [
    (is_piece, {"book": BOOK, "value": "ab"}),
    (places, {"book": BOOK}),
    (fits, {"book": BOOK, "ring": "abcabd"}),
    (way, {"book": BOOK, "one": "bc", "other": "da"}),
    (has_ring, {"book": BOOK}),
    (some_ring, {"book": BOOK}),
    (closed_lot, {"book": BOOK}),
    (is_closed_lot, {"book": BOOK, "value": ("a",)}),
]
SURE_CALLS = [
    (is_sure, {"book": BOOK, "piece": "cabd"}),
    (leaving, {"book": BOOK, "piece": "cabd"}),
    (is_leaving, {"book": BOOK, "piece": "cabd", "value": (1, 2, "bda")}),
    (without, {"book": BOOK, "piece": "cabd"}),
    (sure_paper, {"book": BOOK, "piece": "cabd"}),
    (paper_holds, {"book": BOOK, "piece": "cabd", "value": ()}),
]
OTHER_CALLS = [
    (windows_of, {"size": 2, "text": "abc"}),
    (ring_windows, {"size": 2, "ring": "abc"}),
    (stands_in, {"ring": "abc", "piece": "ab"}),
    (least_turn, {"ring": "abc"}),
]
CALLS = BOOKS_CALLS + SURE_CALLS + OTHER_CALLS


def put(named, **other):
    """Arguments with others in the place of some."""
    return {**named, **other}


class RefusalsTest(unittest.TestCase):
    def refuses(self, error, value, function, named):
        """The call raises the error by position, by name, and by name the other way round."""
        assert_refused(self, error, value, function, *named.values())
        assert_refused(self, error, value, function, **named)
        assert_refused(self, error, value, function, **dict(reversed(list(named.items()))))

    def test_right_arguments_are_taken_by_position_and_by_name(self):
        for function, named in CALLS + [(is_book, {"value": BOOK}), (is_ring, {"value": "a"})]:
            self.assertEqual(function(*named.values()), function(**named))

    def test_faulty_books(self):
        for function, named in BOOKS_CALLS + SURE_CALLS:
            for book in faulty_books():
                self.refuses(InvalidBook, book, function, put(named, book=book))

    def test_faulty_ring_texts(self):
        for function, named in CALLS:
            if "ring" in named:
                for ring in odd_objects() + ["ab ", "abcA", ("a", "b"), ["a"]]:
                    self.refuses(InvalidRing, ring, function, put(named, ring=ring))

    def test_faulty_pieces_of_the_book(self):
        for function, named in SURE_CALLS:
            for piece in odd_objects() + ["a", "b", "ac", "abca ", "abdc", "ba", ("ab",), ["ab"], "abCa", "xyz"]:
                self.refuses(InvalidPiece, piece, function, put(named, piece=piece))

    def test_pieces_that_are_shorter_than_a_window(self):
        book = (4, ("aabb", "abba", "baab", "bbaa"))
        for function, named in SURE_CALLS:
            for piece in ("a", "aa", "aab", "abb"):
                self.refuses(InvalidPiece, piece, function, put(named, book=book, piece=piece))

    def test_faulty_texts_to_stand_in(self):
        for piece in odd_objects() + ["ab ", ["a"], ("a",), "aBc"]:
            self.refuses(InvalidPiece, piece, stands_in, {"ring": "abc", "piece": piece})

    def test_faulty_windows_to_go_from_and_to(self):
        faulty = odd_objects() + ["a", "abc", "ac", "ba", "xy", ("ab",), ["ab"]]
        for window in faulty:
            self.refuses(InvalidPiece, window, way, {"book": BOOK, "one": window, "other": "da"})
            self.refuses(InvalidPiece, window, way, {"book": BOOK, "one": "bc", "other": window})

    def test_faulty_sizes(self):
        faulty = [size for size in odd_objects() if size is not None] + [None, "2", (2,), [2], [[3], [4]]]
        for size in faulty:
            self.refuses(InvalidSize, size, windows_of, {"size": size, "text": "abc"})
            self.refuses(InvalidSize, size, ring_windows, {"size": size, "ring": "abc"})

    def test_faulty_texts_to_look_for_windows_in(self):
        for text in odd_objects() + [["a"], ("a",), "ab ", "Ab"]:
            if text != "":
                self.refuses(InvalidRing, text, windows_of, {"size": 2, "text": text})

    def test_books_that_no_ring_text_fits(self):
        for book in (NO_RING, (2, ("ab",)), (3, ("aba",)), (2, ("aa", "bb")), (2, ("ab", "ba", "bc"))):
            for function, named in SURE_CALLS:
                self.refuses(NoRing, book, function, put(named, book=book, piece=book[1][0]))

    def test_two_wrong_ones_are_refused_by_the_first(self):
        wrong = ["A", []]
        for function, named in CALLS:
            first = list(named)[0]
            error = {"book": InvalidBook, "ring": InvalidRing, "size": InvalidSize}[first]
            for last in list(named)[1:]:
                self.refuses(error, wrong, function, put(named, **{first: wrong, last: ["B", []]}))

    def test_two_wrong_windows_are_refused_by_the_first(self):
        self.refuses(InvalidPiece, "xx", way, {"book": BOOK, "one": "xx", "other": "yy"})
        self.refuses(InvalidPiece, ["x"], way, {"book": BOOK, "one": ["x"], "other": ["y"]})

    def test_no_ring_stands_behind_invalid_book_and_ahead_of_invalid_piece(self):
        for function, named in SURE_CALLS:
            for piece in ("xx", None, [["ab"]], "ba"):
                self.refuses(NoRing, NO_RING, function, put(named, book=NO_RING, piece=piece))
                self.refuses(InvalidBook, (2, ["ab"]), function, put(named, book=(2, ["ab"]), piece=piece))

    def test_no_ring_is_for_sure_py_alone(self):
        for function, named in BOOKS_CALLS:
            right = {"book": NO_RING, "value": ("b",), "ring": "abb", "one": "ab", "other": "bb"}
            function(**{name: right[name] for name in named})

    def test_what_is_judged_is_refused_by_none(self):
        for value in odd_objects() + faulty_books():
            before = repr(value)
            self.assertIs(is_ring(value), value == "ab")
            self.assertIs(is_book(value), False)
            self.assertIs(is_piece(BOOK, value), value == "ab")
            self.assertIs(is_closed_lot(BOOK, value), False)
            self.assertIs(is_leaving(BOOK, "cabc", value), False)
            self.assertIs(paper_holds(BOOK, "cabd", value), False)
            self.assertEqual(repr(value), before)

    def test_dicts_and_sets_in_a_refused_object_are_as_they_were(self):
        for book in ({"a": ["b"]}, [{"a": ["b"]}, {1, 2}], (2, {"ab": ("a", ["b"])})):
            assert_refused(self, InvalidBook, book, places, book)


class ListsTest(unittest.TestCase):
    def test_each_list_that_is_returned_is_new(self):
        for function, args in ((places, (BOOK,)), (windows_of, (2, "abcab")), (ring_windows, (2, "abcabd"))):
            one = function(*args)
            other = function(*args)
            self.assertIs(type(one), list)
            self.assertEqual(one, other)
            self.assertIsNot(one, other)
            one.append("z")
            one[0] = "y"
            self.assertEqual(function(*args), other)

    def test_equal_arguments_give_equal_values(self):
        for function, named in CALLS:
            copied = {name: eval(repr(value)) for name, value in named.items()}
            self.assertEqual(function(**named), function(**copied))
            self.assertEqual(repr(function(**named)), repr(function(**copied)))

    def test_what_is_told_whether_is_true_or_false(self):
        for function in (is_piece, fits, has_ring, is_closed_lot, is_sure, is_leaving, paper_holds, stands_in):
            named = dict(CALLS_BY_NAME[function.__name__])
            self.assertIn(type(function(**named)), (bool,))


CALLS_BY_NAME = {function.__name__: named for function, named in CALLS}


if __name__ == "__main__":
    unittest.main()

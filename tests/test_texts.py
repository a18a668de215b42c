"""Points [36] and [37]: texts of books, counts and papers, and books read from texts."""

import random
import unittest
from itertools import product

from tests.helper import BOOK, NO_RING, assert_refused, books_at_the_bounds, odd_objects, small_books
from surepieces.books import is_book
from surepieces.errors import Unreadable
from surepieces.reading import read_book
from surepieces.sure import is_sure, sure_paper
from surepieces.texts import show_book, show_counts, show_paper

TEXT = "2: ab bc bd ca da"


class ShowBookTest(unittest.TestCase):
    def test_show_book(self):
        self.assertEqual(show_book(BOOK), TEXT)
        self.assertEqual(show_book(book=(6, ("aaaaaa",))), "6: aaaaaa")
        self.assertEqual(show_book((3, ("abc", "bca"))), "3: abc bca")


class ShowCountsTest(unittest.TestCase):
    def test_show_counts(self):
        self.assertEqual(show_counts(BOOK, (2, 1, 1, 1, 1)), "ab=2 bc=1 bd=1 ca=1 da=1")
        self.assertEqual(show_counts(counts=(12, 0, 0, 0, 345), book=BOOK), "ab=12 da=345")
        self.assertEqual(show_counts((2, ("aa",)), (10,)), "aa=10")

    def test_counts_that_are_0(self):
        self.assertEqual(show_counts(BOOK, (0, 0, 1, 0, 0)), "bd=1")
        self.assertEqual(show_counts(BOOK, (0, 0, 0, 0, 0)), "-")
        self.assertEqual(show_counts((2, ("aa",)), (0,)), "-")

    def test_great_counts(self):
        self.assertEqual(show_counts(NO_RING, (10 ** 30, 10 ** 100 + 7)), "ab=1" + "0" * 30 + " bb=1" + "0" * 99 + "7")
        for number in (9, 10, 63, 64, 65, 127, 128, 129, 600, 4299, 4300, 4301, 20000):
            self.assertEqual(show_counts((2, ("aa",)), (10 ** number,)), "aa=1" + "0" * number)
            self.assertEqual(show_counts((2, ("aa",)), (10 ** number - 1,)), "aa=" + "9" * number)
        rng = random.Random(1)
        for _ in range(200):
            number = rng.randrange(10 ** rng.randint(1, 600))
            self.assertEqual(show_counts((2, ("aa",)), (number,)), "aa=" + str(number) if number else "-")


class ShowPaperTest(unittest.TestCase):
    def test_show_paper(self):
        self.assertEqual(show_paper(sure_paper(BOOK, "cabd")), "- ; bc ca ; ab bc ca")
        self.assertEqual(show_paper(value=(("ab",),)), "ab")
        self.assertEqual(show_paper((("ab", "bc"), ("bd",), ())), "ab bc ; bd ; -")

    def test_an_empty_lot(self):
        self.assertEqual(show_paper(((),)), "-")
        self.assertEqual(show_paper(((), (), ())), "- ; - ; -")

    def test_no_lots(self):
        self.assertEqual(show_paper(()), "")
        self.assertEqual(show_paper(sure_paper(BOOK, "ab")), "")

    def test_papers_can_be_told_from_their_texts(self):
        for piece in ("ab", "abd", "cabd", "abcabdab", "bdab"):
            if is_sure(BOOK, piece):
                paper = sure_paper(BOOK, piece)
                lots = show_paper(paper).split(" ; ") if paper else []
                self.assertEqual(tuple(() if lot == "-" else tuple(lot.split(" ")) for lot in lots), paper)


class ReadBookTest(unittest.TestCase):
    def test_read_book(self):
        self.assertEqual(read_book(TEXT), BOOK)
        self.assertEqual(read_book(text="6: aaaaaa"), (6, ("aaaaaa",)))
        told = read_book("3: abc bca")
        self.assertEqual([type(told), type(told[0]), type(told[1]), told], [tuple, int, tuple, (3, ("abc", "bca"))])

    def test_all_books_are_read_from_their_texts(self):
        for book in list(small_books(2, "ab")) + list(small_books(3, "ab")) + list(books_at_the_bounds()) + [NO_RING]:
            self.assertEqual(read_book(show_book(book)), book)

    def test_unreadable(self):
        wrong = ["2:", "2: ", "2:ab", "2 : ab", "2: ab ", " 2: ab", "2:  ab", "2: ab  bc", "2: bc ab", "2: ab ab",
                 "2; ab", "3: ab", "2: abc", "2: ab abc", "1: a", "7: abcdefg", "0: ", "02: ab", "2.0: ab", "+2: ab", "2: AB",
                 "2: a1", "2: ab\n", "2: ab\nbc", "2: ab,bc", "2: ab\tbc", "ab bc", ":", ": ab", "22: ab", "2: ab:bc",
                 "2: (ab)", "2: ab -", "-2: ab", "2: -", "2: ab=1", "two: ab", "2: a b", "2\n: ab", "12: ab", "2:: ab",
                 "2 ab", "2", "", "book 2: ab", TEXT + ".", TEXT + " e", TEXT + "a", TEXT + " ca", TEXT.upper()]
        for text in wrong:
            assert_refused(self, Unreadable, text, read_book, text)
            assert_refused(self, Unreadable, text, read_book, text=text)

    def test_any_object(self):
        for value in odd_objects() + [BOOK, [TEXT], (TEXT,), {TEXT: 1}, {TEXT}, TEXT.encode(), [["2", [TEXT]]]]:
            assert_refused(self, Unreadable, value, read_book, value)

    def test_one_sign_more_less_or_another(self):
        signs = " :abd2\n~-"
        for at in range(len(TEXT) + 1):
            texts = [TEXT[:at] + TEXT[at + 1:]] + [TEXT[:at] + sign + TEXT[at:] for sign in signs]
            texts += [TEXT[:at] + sign + TEXT[at + 1:] for sign in signs]
            for text in texts:
                try:
                    book = read_book(text)
                except Unreadable as error:
                    self.assertEqual(error.value, text)
                else:
                    self.assertTrue(is_book(book))
                    self.assertEqual(show_book(book), text)

    def test_short_texts_of_few_signs(self):
        read = []
        for length in range(7):
            for row in product("2: ab", repeat=length):
                try:
                    read.append(read_book("".join(row)))
                except Unreadable:
                    pass
        self.assertEqual(sorted(read), [(2, ("aa",)), (2, ("ab",)), (2, ("ba",)), (2, ("bb",))][:len(read)])
        self.assertEqual(len(read), 4)


if __name__ == "__main__":
    unittest.main()

"""Point [38]: a Desk, its commands and answers."""

import random
import unittest

from tests.helper import BOOK, SMALL_LETTERS, SoonTest, assert_refused, books_at_the_bounds, odd_objects, plain_fits
from tests.helper import plain_stands
from surepieces.desk import Desk
from surepieces.errors import Empty, Endless, InvalidCommand, InvalidPiece, NoRing, NotReady, Nothing, PieceError
from surepieces.live import Live
from surepieces.texts import show_book

TEXT = "2: ab bc bd ca da"
READY = ["put ab", "take ab", "back", "show", "ring", "sure ab", "longest", "shortest", "needed"]


def desk_with(text):
    desk = Desk()
    desk.execute("book " + text)
    return desk


def answers(desk, lines):
    return [desk.execute(line) for line in lines]


class CommandsTest(unittest.TestCase):
    def test_the_lines_of_the_document(self):
        lines = ["book " + TEXT, "ring", "sure cabd", "shortest", "take bd", "ring", "back", "needed"]
        self.assertEqual(answers(Desk(), lines), ["ok", "yes", "yes", "6", "ok", "no", "take", "ab bc bd ca da"])

    def test_by_name(self):
        desk = Desk()
        self.assertEqual([desk.execute(line="book " + TEXT), desk.execute(line="show")], ["ok", TEXT])

    def test_put_take_back_show(self):
        lines = ["put aa", "show", "take ab", "show", "back", "show", "back", "show"]
        self.assertEqual(answers(desk_with(TEXT), lines), [
            "ok", "2: aa ab bc bd ca da", "ok", "2: aa bc bd ca da", "take", "2: aa ab bc bd ca da", "put", TEXT])

    def test_show_without_a_window(self):
        desk = desk_with("4: abcd")
        self.assertEqual(answers(desk, ["take abcd", "show", "ring", "back", "show"]),
                         ["ok", "4:", "no", "take", "4: abcd"])

    def test_sure(self):
        desk = desk_with(TEXT)
        self.assertEqual(desk.execute("sure abcabdab"), "yes")
        for piece in ("cabc", "abcabc", "dabd"):
            word, ring = desk.execute("sure " + piece).split(" ")
            self.assertEqual(word, "no")
            self.assertTrue(plain_fits(BOOK, ring))
            self.assertFalse(plain_stands(ring, piece))

    def test_longest_shortest_needed(self):
        self.assertEqual(answers(desk_with(TEXT), ["longest", "shortest", "needed"]),
                         ["abcabdab abdabcab", "6", "ab bc bd ca da"])
        self.assertEqual(answers(desk_with("2: aa ab ba"), ["longest", "shortest", "needed"]),
                         ["aaba abaa", "3", "ab ba"])
        self.assertEqual(desk_with("2: ab ac ba bc ca cb").execute("needed"), "-")
        self.assertEqual(answers(desk_with("6: aaaaaa"), ["shortest", "needed"]), ["1", "aaaaaa"])

    def test_a_second_book_is_a_new_live(self):
        desk = desk_with(TEXT)
        desk.execute("put aa")
        self.assertEqual(desk.execute("book 3: aaa aab"), "ok")
        self.assertEqual(desk.execute("show"), "3: aaa aab")
        assert_refused(self, Nothing, None, desk.execute, "back")
        self.assertEqual(desk.execute("ring"), "no")

    def test_windows_that_are_the_words_of_commands(self):
        desk = desk_with("4: back")
        lines = ["put book", "put ring", "put show", "put sure", "put take", "take book", "take take", "show"]
        self.assertEqual(answers(desk, lines), ["ok"] * 7 + ["4: back ring show sure"])
        self.assertEqual(answers(desk, ["back", "take back", "show", "back", "back", "show"]),
                         ["take", "ok", "4: ring show sure take", "take", "take", "4: back book ring show sure take"])
        self.assertEqual(answers(desk_with("3: put"), ["put tak", "show", "take put", "take tak", "show"]),
                         ["ok", "3: put tak", "ok", "ok", "3:"])
        desk = desk_with("6: needed")
        assert_refused(self, NoRing, (6, ("needed",)), desk.execute, "sure needed")
        assert_refused(self, NoRing, (6, ("needed",)), desk.execute, "needed")

    def test_answers_are_texts(self):
        for line in READY[2:]:
            desk = desk_with(TEXT)
            desk.execute("put cc")
            self.assertIs(type(desk.execute(line)), str)


class RefusedTest(unittest.TestCase):
    def lines(self):
        """Lines that say nothing."""
        words = ["book", "put", "take", "back", "show", "ring", "sure", "longest", "shortest", "needed"]
        wrong = ["", " ", "\n", "-", "ok", "yes", "help", "ab", "putt ab", "pu ab", "Put ab", "PUT ab", "put", "take",
                 "sure", "book", "put ", "take ", "sure ", "book ", "put  ab", "put ab ", " put ab", "put ab cd",
                 "put AB", "put a1", "put ab\n", "put\nab", "put\tab", "put-ab", "putab", "sure cabd cabc", "sure cAbd",
                 "sure ~", "take 1", "take ab,bc", "sure -",
                 "book 2:", "book 2: ", "book 2:ab", "book 3: ab", "book 2: bc ab", "book  2: ab", "book 2: ab ",
                 "book 2: ab  bc", "book ab", "book 1: a", "book 7: abcdefg", "book 2: ab ab", "book 2: ab\n", TEXT,
                 "book " + TEXT + " ", "twin", "windows", "size", "story", "len", "rings", "sure: ab", "book: 2: ab"]
        wrong += [word + " " for word in words] + [word + "  " for word in words] + [" " + word for word in words]
        wrong += [word + "s" for word in words] + [word.upper() for word in words] + [word[:-1] for word in words]
        wrong += [word + " ab" for word in words if word not in ("put", "take", "sure")]
        return wrong + [word + "\n" for word in words]

    def test_lines_that_say_nothing(self):
        for desk in (Desk(), desk_with(TEXT)):
            for line in self.lines():
                assert_refused(self, InvalidCommand, line, desk.execute, line)
                assert_refused(self, InvalidCommand, line, desk.execute, line=line)

    def test_any_object(self):
        for desk in (Desk(), desk_with(TEXT)):
            for line in odd_objects() + [["show"], ("show",), {"show": 1}, {"show"}, b"show", [["put", "ab"]]]:
                assert_refused(self, InvalidCommand, line, desk.execute, line)

    def test_not_ready(self):
        desk = Desk()
        for line in READY + ["put zz", "sure x", "take abcdefgh"]:
            assert_refused(self, NotReady, None, desk.execute, line)
        self.assertEqual(answers(desk, ["book " + TEXT, "show"]), ["ok", TEXT])

    def test_not_ready_behind_a_book_that_is_none(self):
        desk = Desk()
        assert_refused(self, InvalidCommand, "book 2: ba ab", desk.execute, "book 2: ba ab")
        assert_refused(self, NotReady, None, desk.execute, "show")

    def test_errors_of_what_is_done(self):
        desk = desk_with(TEXT)
        for line, window in (("put ab", "ab"), ("put abc", "abc"), ("put a", "a"), ("take aa", "aa"), ("take x", "x"),
                             ("sure ac", "ac"), ("sure a", "a"), ("sure abcabdabx", "abcabdabx")):
            assert_refused(self, InvalidPiece, window, desk.execute, line)
        assert_refused(self, Nothing, None, desk.execute, "back")
        desk.execute("take bd")
        for line in ("sure ab", "sure zz", "longest", "shortest", "needed"):
            assert_refused(self, NoRing, (2, ("ab", "bc", "ca", "da")), desk.execute, line)
        desk.execute("take da")
        assert_refused(self, Endless, (2, ("ab", "bc", "ca")), desk.execute, "longest")
        for window in ("ab", "bc", "ca"):
            desk.execute("take " + window)
        for line in ("sure ab", "sure zz", "longest", "shortest", "needed"):
            assert_refused(self, Empty, None, desk.execute, line)
        self.assertEqual(answers(desk, ["ring", "show"]), ["no", "2:"])

    def test_refused_commands_change_nothing(self):
        desk = desk_with(TEXT)
        answers(desk, ["put cc", "take bd"])
        for line in self.lines() + ["put cc", "take bd", "put ccc", "sure bd", "needed", "longest", "book 2: ab aa"]:
            self.assertRaises(PieceError, desk.execute, line)
            self.assertEqual(desk.execute("show"), "2: ab bc ca cc da")
        self.assertEqual(answers(desk, ["back", "back", "show"]), ["take", "put", TEXT])
        self.assertRaises(Nothing, desk.execute, "back")

    def test_two_desks(self):
        one, other = desk_with(TEXT), Desk()
        self.assertRaises(NotReady, other.execute, "show")
        other.execute("book 2: zz")
        one.execute("put aa")
        self.assertEqual([one.execute("show"), other.execute("show")], ["2: aa ab bc bd ca da", "2: zz"])


class RandomLinesTest(unittest.TestCase):
    def test_as_a_live(self):
        """A desk answers as a Live does, errors and all."""
        for seed in range(10):
            rng = random.Random(seed)
            desk, live = desk_with("2: ab ba"), Live(2, ("ab", "ba"))
            for _ in range(120):
                word = rng.choice("put put take back ring sure longest shortest needed show".split())
                other = "".join(rng.choices("abc", k=rng.choice([2, 2, 2, 3])))
                line = word + " " + other if word in ("put", "take", "sure") else word
                self.assertEqual(self.told(desk.execute, line), self.told(self.plain, live, word, other), line)

    def told(self, function, *args):
        try:
            answer = function(*args)
        except PieceError as error:
            return type(error), error.value
        return answer if not answer.startswith("no ") else "no"

    def plain(self, live, word, other):
        if word in ("put", "take"):
            (live.put if word == "put" else live.take)(other)
            return "ok"
        if word == "show":
            return " ".join([f"{live.size}:", *live.windows])
        if word in ("ring", "sure"):
            return "yes" if (live.has_ring() if word == "ring" else live.is_sure(other)) else "no"
        answer = {"back": live.back, "longest": live.longest, "shortest": live.shortest, "needed": live.needed}[word]()
        return (" ".join(answer) or "-") if type(answer) is list else str(answer)


class DeskBoundsTest(SoonTest):
    def test_books_of_forty_windows(self):
        for book in books_at_the_bounds():
            desk = desk_with(show_book(book))
            self.assertEqual(desk.execute("show"), show_book(book))
            self.assertEqual(desk.execute("ring"), "yes")
            self.assertGreaterEqual(int(desk.execute("shortest")), len(book[1]))
            self.assertTrue(desk.execute("needed"))
            for window in book[1]:
                self.assertEqual(desk.execute("take " + window), "ok")
            self.assertEqual(desk.execute("show"), f"{book[0]}:")
            for window in reversed(book[1]):
                self.assertEqual(desk.execute("put " + window), "ok")
            self.assertEqual(desk.execute("show"), show_book(book))

    def test_long_lines(self):
        desk = desk_with("2: ab ba")
        self.assertEqual(desk.execute("sure " + "ab" * 60), "yes")
        self.assertRaises(InvalidPiece, desk.execute, "sure " + "ab" * 3000 + "b")
        self.assertRaises(InvalidPiece, desk.execute, "put " + SMALL_LETTERS * 50)


if __name__ == "__main__":
    unittest.main()

"""A desk that works on a book by lines of text."""

from surepieces.books import is_ring
from surepieces.common import rebuilt
from surepieces.errors import InvalidCommand, NotReady
from surepieces.live import Live
from surepieces.reading import book_of
from surepieces.sure import without
from surepieces.texts import show_book


def put_answer(live, window):
    """Puts a window."""
    live.put(window)
    return "ok"


def take_answer(live, window):
    """Takes a window."""
    live.take(window)
    return "ok"


def sure_answer(live, piece):
    """Tells whether a piece is sure, and if not a ring text without it."""
    return "yes" if live.is_sure(piece) else "no " + without(live.book(), piece)


def back_answer(live):
    """Takes the last deed back and tells its word."""
    return live.back()


def show_answer(live):
    """Tells the size and the windows."""
    return show_book(live.book()) if live.windows else f"{live.size}:"


def ring_answer(live):
    """Tells whether some ring text fits."""
    return "yes" if live.has_ring() else "no"


def longest_answer(live):
    """Tells the longest sure pieces."""
    return " ".join(live.longest())


def shortest_answer(live):
    """Tells how many letters the shortest ring texts have."""
    return str(live.shortest())


def needed_answer(live):
    """Tells the windows that may not go."""
    windows = live.needed()
    return " ".join(windows) if windows else "-"


# The commands of a word and one more, and those of a word alone.
WITH_WORD = {"put": put_answer, "take": take_answer, "sure": sure_answer}
ALONE = {
    "back": back_answer, "show": show_answer, "ring": ring_answer, "longest": longest_answer,
    "shortest": shortest_answer, "needed": needed_answer,
}


class Desk:
    """What a line of text does is done to the Live of the last book that a line told."""

    def __init__(self):
        self._live = None

    def execute(self, line):
        """Does what a line says, and returns the answer."""
        if not is_command(line):
            raise InvalidCommand(rebuilt(line))
        word, _, told = line.partition(" ")
        if word == "book":
            size, windows = book_of(told)
            self._live = Live(size, windows)
            return "ok"
        if self._live is None:
            raise NotReady(None)
        if word in ALONE:
            answer = ALONE[word]
            return answer(self._live)
        answer = WITH_WORD[word]
        return answer(self._live, told)


def is_command(value):
    """Tells whether any object is a line that says something."""
    if not isinstance(value, str):
        return False
    word, blank, told = value.partition(" ")
    if word in ALONE:
        return blank == ""
    if word in WITH_WORD:
        return is_ring(told)
    return word == "book" and book_of(told) is not None

"""Books read from their texts."""

from surepieces.books import is_book
from surepieces.common import rebuilt
from surepieces.errors import Unreadable


def read_book(text):
    """Returns the book that has a text."""
    book = book_of(text)
    if book is None:
        raise Unreadable(rebuilt(text))
    return book


def book_of(text):
    """Returns the book that has any object as its text, None if there is none."""
    if not isinstance(text, str) or text[:1] not in ("2", "3", "4", "5", "6") or text[1:3] != ": ":
        return None
    book = (int(text[0]), tuple(text[3:].split(" ")))
    return book if is_book(book) else None

"""Texts of books, counts and papers."""

PART = 10 ** 64


def show_book(book):
    """Returns the text of a book."""
    size, windows = book
    return f"{size}: " + " ".join(windows)


def show_counts(book, counts):
    """Returns the text of counts: the windows with a count from 1 on, each with it."""
    told = [window + "=" + digits(count) for window, count in zip(book[1], counts) if count > 0]
    return " ".join(told) if told else "-"


def show_paper(value):
    """Returns the text of a paper that shows that a piece is sure."""
    return " ; ".join([" ".join(lot) if lot else "-" for lot in value])


def digits(number):
    """Returns the text of an integer from 0 on, however great: Python itself writes none of many thousand digits."""
    parts = []
    while number >= PART:
        parts.append(str(number % PART).zfill(64))
        number = number // PART
    parts.append(str(number))
    parts.reverse()
    return "".join(parts)

"""Books, their places and pieces, and the ring texts that fit them."""

from surepieces.common import begun, is_ascending, is_letters, is_whole, reached, rebuilt
from surepieces.common import ring_without, steps_of, text_of, trail, turned, unrolled
from surepieces.errors import InvalidBook, InvalidPiece, InvalidRing, InvalidSize


def is_book(value):
    """Tells whether any object is a book."""
    if not isinstance(value, tuple) or len(value) != 2:
        return False
    size, windows = value
    return is_size(size) and is_windows(size, windows) and windows != ()


def is_size(value):
    """Tells whether any object is an integer that windows can have as their size."""
    return is_whole(value) and 2 <= value <= 6


def is_windows(size, value):
    """Tells whether any object is an ascending tuple, perhaps empty, of texts of size small letters."""
    return is_ascending(value) and all([len(window) == size and is_letters(window) for window in value])


def is_ring(value):
    """Tells whether any object is a ring text."""
    return is_letters(value) and value != ""


def is_piece(book, value):
    """Tells whether any object is a piece of the book."""
    check_book(book)
    return is_piece_of(book, value)


def is_piece_of(book, value):
    """Tells whether any object is a piece of what surely is a book."""
    size, windows = book
    if not isinstance(value, str) or len(value) < size:
        return False
    known = {window: True for window in windows}
    return all([step in known for step in steps_of(size, value)])


def check_book(book):
    """Refuses what is no book."""
    if not is_book(book):
        raise InvalidBook(rebuilt(book))


def check_ring(ring):
    """Refuses what is no ring text."""
    if not is_ring(ring):
        raise InvalidRing(rebuilt(ring))


def check_size(size):
    """Refuses what is no size of windows."""
    if not is_size(size):
        raise InvalidSize(rebuilt(size))


def check_piece(book, piece):
    """Refuses what is no piece of what surely is a book."""
    if not is_piece_of(book, piece):
        raise InvalidPiece(rebuilt(piece))


def check_window(book, window):
    """Refuses what is no window of what surely is a book."""
    if not isinstance(window, str) or window not in book[1]:
        raise InvalidPiece(rebuilt(window))


def places(book):
    """Returns the ascending list of the places of a book."""
    check_book(book)
    return list(begun(book))


def windows_of(size, text):
    """Returns the ascending list of the texts of size letters that stand in a text of small letters."""
    check_size(size)
    if not is_letters(text):
        raise InvalidRing(rebuilt(text))
    return sorted(set(steps_of(size, text)))


def ring_windows(size, ring):
    """Returns the ascending list of the windows of a size of a ring text."""
    check_size(size)
    check_ring(ring)
    return windows_of(size, unrolled(ring, size - 1))


def fits(book, ring):
    """Tells whether a ring text fits a book."""
    check_book(book)
    return ring_windows(book[0], ring) == list(book[1])


def stands_in(ring, piece):
    """Tells whether a text of small letters, not empty, stands in a ring text."""
    check_ring(ring)
    if not is_ring(piece):
        raise InvalidPiece(rebuilt(piece))
    return piece in unrolled(ring, len(piece) - 1)


def least_turn(ring):
    """Returns the least of the texts that one reads once round a ring text."""
    check_ring(ring)
    length = len(ring)
    twice = ring + ring
    one, other, same = 0, 1, 0
    while one < length and other < length and same < length:
        first, second = twice[one + same], twice[other + same]
        if first == second:
            same += 1
            continue
        # A turn that loses behind equal letters takes with it those that begin at these letters.
        if first > second:
            one += same + 1
        else:
            other += same + 1
        if one == other:
            other += 1
        same = 0
    start = min(one, other)
    return twice[start:start + length]


def way(book, one, other):
    """Returns the shortest piece from one window to another, the first one as texts compare, or None."""
    check_book(book)
    check_window(book, one)
    check_window(book, other)
    starts = begun(book)
    came = reached([one], {window: starts[window[1:]] for window in book[1]})
    if other not in came:
        return None
    return text_of(trail(came, other))


def has_ring(book):
    """Tells whether some ring text fits a book."""
    return closed_lot(book) is None


def some_ring(book):
    """Returns a ring text that fits a book, None if none does."""
    check_book(book)
    return ring_without(book, [])


def closed_lot(book):
    """Returns a lot of places out of which no window leads, None if some ring text fits the book."""
    check_book(book)
    starts = begun(book)
    links = {place: [window[1:] for window in starts[place]] for place in starts}
    first = book[1][0][:-1]
    ahead = reached([first], links)
    if len(ahead) < len(links):
        return tuple(sorted(ahead))
    # Where the first place cannot be reached from, no window leads to where it can.
    behind = reached([first], turned(links))
    if len(behind) < len(links):
        return tuple([place for place in links if place not in behind])
    return None


def is_closed_lot(book, value):
    """Tells whether any object is a lot of places out of which no window leads."""
    check_book(book)
    starts = begun(book)
    if not is_ascending(value) or not 0 < len(value) < len(starts):
        return False
    if not all([place in starts for place in value]):
        return False
    return all([window[1:] in value for place in value for window in starts[place]])

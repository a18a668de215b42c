"""Whether one of several pieces surely stands in a ring text that fits a book."""

from itertools import combinations

from surepieces.books import check_piece
from surepieces.common import lot_without, ring_without
from surepieces.sure import check_ringed


def one_is_sure(book, pieces):
    """Tells whether in each ring text that fits a book at least one of the pieces stands."""
    check_pieces(book, pieces)
    return cannot_miss(book, pieces)


def without_all(book, pieces):
    """Returns a ring text that fits a book in which none of the pieces stands, None if there is none."""
    check_pieces(book, pieces)
    return ring_without(book, pieces)


def needed(book, pieces):
    """Returns the ascending list of the indexes without which alone no longer one of the pieces is sure."""
    check_pieces(book, pieces)
    if not cannot_miss(book, pieces):
        return []
    return [at for at in range(len(pieces)) if not cannot_miss(book, pieces[:at] + pieces[at + 1:])]


def fewest(book, pieces):
    """Returns the first of the shortest ascending tuples of indexes one of whose pieces is sure, None if none is."""
    check_pieces(book, pieces)
    if not cannot_miss(book, pieces):
        return None
    for many in range(1, len(pieces)):
        for indexes in combinations(range(len(pieces)), many):
            if cannot_miss(book, [pieces[at] for at in indexes]):
                return indexes
    return tuple(range(len(pieces)))


def check_pieces(book, pieces):
    """Refuses the first object of a list that is no piece of the book, and, as check_ringed does, the book."""
    check_ringed(book)
    for piece in pieces:
        check_piece(book, piece)


def cannot_miss(book, pieces):
    """Tells whether one of what surely are pieces stands in each ring text that fits; of no piece at all it is not."""
    return lot_without(book, pieces) is None

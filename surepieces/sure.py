"""Sure pieces, their papers, and the leavings of other pieces."""

from surepieces.books import check_piece, has_ring, is_piece_of
from surepieces.common import begun, is_ascending, is_whole, reached, rebuilt, ring_without
from surepieces.common import steps_of, text_of, trail
from surepieces.errors import NoRing


def is_sure(book, piece):
    """Tells whether a piece stands in each ring text that fits the book."""
    return leaving(book, piece) is None


def leaving(book, piece):
    """Returns a leaving of a piece, None if it has none."""
    check_ringed(book)
    check_piece(book, piece)
    return first_leaving(book, steps_of(book[0], piece))


def is_leaving(book, piece, value):
    """Tells whether any object is a leaving of a piece."""
    check_ringed(book)
    check_piece(book, piece)
    if not isinstance(value, tuple) or len(value) != 3:
        return False
    i, j, text = value
    if not is_whole(i) or not is_whole(j) or not is_piece_of(book, text):
        return False
    steps = steps_of(book[0], piece)
    return 1 <= i <= j < len(steps) and comes_back(steps[i - 1], steps[j], steps_of(book[0], text))


def without(book, piece):
    """Returns a ring text that fits the book and in which a piece does not stand, None if it is sure."""
    check_ringed(book)
    check_piece(book, piece)
    return ring_without(book, [piece])


def sure_paper(book, piece):
    """Returns a paper that shows that a piece is sure, None if it is not."""
    check_ringed(book)
    check_piece(book, piece)
    steps = steps_of(book[0], piece)
    if first_leaving(book, steps) is not None:
        return None
    starts = begun(book)
    lots = {}
    paper = []
    for i, j in numbers_of_pairs(steps):
        pair = (steps[i - 1], steps[j])
        if pair not in lots:
            lots[pair] = tuple(sorted(lot_between(starts, steps[i - 1], steps[j])))
        paper.append(lots[pair])
    return tuple(paper)


def paper_holds(book, piece, value):
    """Tells whether any object is a paper that shows that a piece is sure."""
    check_ringed(book)
    check_piece(book, piece)
    steps = steps_of(book[0], piece)
    pairs = numbers_of_pairs(steps)
    if not isinstance(value, tuple) or len(value) != len(pairs):
        return False
    starts = begun(book)
    known = {window: True for window in book[1]}
    for (i, j), lot in zip(pairs, value):
        if not is_lot(known, lot) or not lot_holds(starts, steps[i - 1], steps[j], lot):
            return False
    return True


def check_ringed(book):
    """Refuses a book that no ring text fits, and, as has_ring does, what is no book."""
    if not has_ring(book):
        raise NoRing(rebuilt(book))


def numbers_of_pairs(steps):
    """Returns the list of all (i, j) with 1 <= i <= j <= n of a piece with the steps 0 to n, by j and then by i."""
    return [(i, j) for j in range(1, len(steps)) for i in range(1, j + 1)]


def lot_between(starts, into, out):
    """Returns, as reached does, all windows on ways that leave where out begins by another window.

    The ways end where into ends and where out begins. What comes of it depends on the two
    steps alone, wherever they stand in a piece.
    """
    ends = (into[1:], out[:-1])
    windows = [window for place in starts for window in starts[place]]
    links = {window: [] if window[1:] in ends else starts[window[1:]] for window in windows}
    return reached([window for window in starts[out[:-1]] if window != out], links)


def first_leaving(book, steps):
    """Returns the leaving with the least j, then the least i, of a piece with these steps, None if it has none."""
    starts = begun(book)
    seen = {}
    for i, j in numbers_of_pairs(steps):
        into, out = steps[i - 1], steps[j]
        if (into, out) not in seen:
            seen[(into, out)] = True
            back = way_back(starts, into, out)
            if back:
                return (i, j, text_of(back))
    return None


def way_back(starts, into, out):
    """Returns the steps of a way that leaves where out begins and comes back where into ends, by none of them.

    It is a shortest one, so no place stands twice in it; [] if there is none. A piece is sure
    exactly if there is none for any two of its steps, into ahead of out.
    """
    came = lot_between(starts, into, out)
    for window in came:
        if window[1:] == into[1:] and window != into:
            return trail(came, window)
    return []


def comes_back(into, out, steps):
    """Tells whether a way with these steps leaves where out begins and comes back where into ends, by none of them."""
    home, away = into[1:], out[:-1]
    if steps[0][:-1] != away or steps[-1][1:] != home or steps[0] == out or steps[-1] == into:
        return False
    passed = [step[1:] for step in steps[:-1]]
    return home not in passed and away not in passed and len(set(passed)) == len(passed)


def is_lot(known, value):
    """Tells whether any object is an ascending tuple, perhaps empty, of known windows."""
    return is_ascending(value) and all([window in known for window in value])


def lot_holds(starts, into, out, lot):
    """Tells whether no way that leaves where out begins gets out of a lot or back, but by into."""
    home, away = into[1:], out[:-1]
    own = {window: True for window in lot}
    asked = [window for window in starts[away] if window != out]
    for window in lot:
        if window[1:] == home and window != into:
            return False
        if window[1:] not in (home, away):
            asked.extend(starts[window[1:]])
    return all([window in own for window in asked])

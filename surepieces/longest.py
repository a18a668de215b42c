"""The longest sure pieces of a book, and its plain pieces."""

from surepieces.books import check_piece, check_window
from surepieces.common import begun, rebuilt, steps_of, turned
from surepieces.errors import Endless
from surepieces.sure import check_ringed, first_leaving, way_back


def is_endless(book):
    """Tells whether one window alone begins and one alone ends at each place of a book."""
    check_ringed(book)
    starts = begun(book)
    return len(plain_places(starts)) == len(starts)


def longer(book, piece):
    """Returns the ascending list of the sure pieces that are a sure piece with one letter more, ahead or behind."""
    check_ringed(book)
    check_piece(book, piece)
    steps = steps_of(book[0], piece)
    if first_leaving(book, steps) is not None:
        return []
    starts = begun(book)
    ahead = [window[0] + piece for window in windows_ahead(starts, steps)]
    behind = [piece + window[-1] for window in windows_behind(starts, steps)]
    return sorted(set(ahead + behind))


def longest(book):
    """Returns the ascending list of the sure pieces with which no letter more makes a sure one."""
    check_not_endless(book)
    starts = begun(book)
    # Whether a piece is sure depends on any two of its steps alone, so these lists tell it of all pieces.
    later = {window: windows_later(book, starts, window) for window in book[1]}
    return sorted([piece for piece in longest_behind(book, starts, later) if not goes_on_ahead(book, later, piece)])


def longest_with(book, window):
    """Returns the ascending list of the longest sure pieces in which a window stands."""
    check_not_endless(book)
    check_window(book, window)
    return [piece for piece in longest(book) if window in piece]


def plain_pieces(book):
    """Returns the ascending list of the longest pieces with plain inner places alone."""
    check_not_endless(book)
    starts = begun(book)
    plain = plain_places(starts)
    found = []
    for window in book[1]:
        if window[:-1] not in plain:
            piece = window
            # This ends: plain places that go round would be all places of an endless book.
            while piece[1 - book[0]:] in plain:
                piece += starts[piece[1 - book[0]:]][0][-1]
            found.append(piece)
    return sorted(found)


def check_not_endless(book):
    """Refuses an endless book, and, as check_ringed does, one that no ring text fits, and what is no book."""
    if is_endless(book):
        raise Endless(rebuilt(book))


def plain_places(starts):
    """Returns a dict with the places at which one window alone begins and one alone ends."""
    ends = turned({place: [window[1:] for window in starts[place]] for place in starts})
    return {place: True for place in starts if len(starts[place]) == 1 and len(ends[place]) == 1}


def windows_ahead(starts, steps):
    """Returns the list of the windows that make a sure piece of a sure one with these steps, as its first step."""
    home = steps[0][:-1]
    windows = [window for place in starts for window in starts[place] if window[1:] == home]
    return [window for window in windows if not any([way_back(starts, window, step) for step in steps])]


def windows_behind(starts, steps):
    """Returns the list of the windows that make a sure piece of a sure one with these steps, as its last step."""
    windows = starts[steps[-1][1:]]
    return [window for window in windows if not any([way_back(starts, step, window) for step in steps])]


def windows_later(book, starts, step):
    """Returns the list of the windows that may stand behind a step in a sure piece, so far as these two go."""
    return [window for window in book[1] if not way_back(starts, step, window)]


def longest_behind(book, starts, later):
    """Returns the list of the sure pieces that no letter more behind them makes a sure one, by windows_later."""
    found = []
    waiting = [(window, later[window]) for window in book[1]]
    while waiting:
        # Allowed are the windows that may stand anywhere behind all steps of the piece.
        piece, allowed = waiting.pop()
        steps = [step for step in starts[piece[1 - book[0]:]] if step in allowed]
        for step in steps:
            waiting.append((piece + step[-1], [other for other in allowed if other in later[step]]))
        if not steps:
            found.append(piece)
    return found


def goes_on_ahead(book, later, piece):
    """Tells whether a letter more ahead of a sure piece makes a sure one, by windows_later."""
    steps = steps_of(book[0], piece)
    ahead = [window for window in book[1] if window[1:] == steps[0][:-1]]
    return any([all([step in later[window] for step in steps]) for window in ahead])

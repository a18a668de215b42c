"""Windows that may go, those that may not, the lots that ring texts have, and windows that must join."""

from surepieces.books import check_book, has_ring, is_windows
from surepieces.common import begun, joined_states, reached, rebuilt, trail, turned
from surepieces.errors import InvalidWindows
from surepieces.sure import check_ringed


def needed(book):
    """Returns the ascending list of the windows of a book each of which alone may not go."""
    check_ringed(book)
    return [window for window in book[1] if not goes_without(book, [window])]


def may_go(book, windows):
    """Tells whether some ring text fits a book without some of its windows."""
    check_book(book)
    if not is_windows(book[0], windows) or windows == book[1] or not all([one in book[1] for one in windows]):
        raise InvalidWindows(rebuilt(windows))
    return goes_without(book, windows)


def largest_lots(book):
    """Returns the ascending list of the tuples of windows that some ring text has, and that lie in no larger one."""
    check_book(book)
    links = window_links(book)
    back = turned(links)
    done = {}
    found = []
    for window in book[1]:
        if window not in done:
            lot = joined_states(window, links, back)
            done.update(lot)
            # A window by itself that does not lead back to itself is in no ring text.
            if lot[window]:
                found.append(tuple(sorted(lot)))
    return found


def round_ring(book):
    """Returns the first one of the shortest ring texts with windows of a book alone, None if there is none."""
    check_book(book)
    starts = begun(book)
    links = window_links(book)
    found = []
    for place in starts:
        came = reached(starts[place], links)
        back = [window for window in came if window[1:] == place]
        if back:
            ring = "".join([window[0] for window in trail(came, back[0])])
            found.append((len(ring), ring))
    return min(found)[1] if found else None


def rest(book):
    """Returns an ascending tuple of windows that may go together, and no other one beside them."""
    check_ringed(book)
    gone = []
    for window in book[1]:
        # No place is lost by it where a ring text still fits, so what may not go beside some may not beside more.
        if goes_without(book, gone + [window]):
            gone.append(window)
    return tuple(gone)


def joined(book, more):
    """Returns the book with further windows."""
    check_book(book)
    if not is_windows(book[0], more) or any([window in book[1] for window in more]):
        raise InvalidWindows(rebuilt(more))
    return (book[0], tuple(sorted(book[1] + more)))


def least_join(book):
    """Returns how many windows, 0 to 2, must join so that some ring text fits, None if more must."""
    if has_ring(book):
        return 0
    starts = begun(book)
    links = {place: [window[1:] for window in starts[place]] for place in starts}
    back = turned(links)
    ahead = {place: reached([place], links) for place in links}
    behind = {place: reached([place], back) for place in links}
    firsts = [place for place in links if len(ahead[place]) == len(links)]
    lasts = [place for place in links if len(behind[place]) == len(links)]
    if any([one[1:] == other[:-1] for one in lasts for other in firsts]):
        return 1
    # Two windows can also lead one behind the other by a place that the book does not have.
    if any([one[2:] == other[:-2] for one in lasts for other in firsts]) or two_join(ahead, behind):
        return 2
    return None


def window_links(book):
    """Returns a dict from each window to the list of the windows that begin where it ends."""
    starts = begun(book)
    return {window: starts[window[1:]] for window in book[1]}


def goes_without(book, windows):
    """Tells whether some ring text fits the book of the other windows; there may be none."""
    others = tuple([window for window in book[1] if window not in windows])
    return others != () and has_ring((book[0], others))


def two_join(ahead, behind):
    """Tells whether with two windows more among these places each place leads to each other one.

    For each place ahead has all that it leads to, behind all that lead to it.
    """
    # Places that lead to one another are as good as one: the least of them stands for all.
    kin = {place: min([other for other in ahead[place] if other in behind[place]]) for place in ahead}
    pairs = sorted({(kin[one], kin[other]) for one in kin for other in kin if one[1:] == other[:-1]})
    # One of the two windows must lead to where no window comes from elsewhere.
    sources = [kin[spot] for spot in kin if all([other in ahead[spot] for other in behind[spot]])]
    for out, into in pairs:
        if into == sources[0]:
            for pair in pairs:
                if comes_to_all(ahead, into, pair) and comes_to_all(behind, out, (pair[1], pair[0])):
                    return True
    return False


def comes_to_all(ways, spot, pair):
    """Tells whether one comes from a place to all places by ways, and by a further link of a pair of places."""
    out, into = pair
    if out not in ways[spot]:
        return len(ways[spot]) == len(ways)
    return all([place in ways[spot] or place in ways[into] for place in ways])

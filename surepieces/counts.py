"""Counts of windows: of ring texts, those that balance, and those that balance within bounds."""

from surepieces.books import check_book, check_ring, check_window, closed_lot
from surepieces.common import begun, is_ascending, is_whole, reached, rebuilt, steps_of, trail, unrolled
from surepieces.errors import InvalidBounds, InvalidCounts, NotWithin


def counts_of(book, ring):
    """Returns how often each window of a book stands in a ring text that has no other ones."""
    check_book(book)
    check_ring(ring)
    found = {window: 0 for window in book[1]}
    for window in steps_of(book[0], unrolled(ring, book[0] - 1)):
        if window not in found:
            raise NotWithin(ring)
        found[window] += 1
    return tuple(found.values())


def balance(book, counts):
    """Tells whether at each place as many windows begin as end, by their counts."""
    check_book(book)
    check_counts(book, counts)
    over = surpluses(book, counts)
    return all([over[place] == 0 for place in over])


def ring_of(book, counts):
    """Returns a ring text with these counts, None if there is none."""
    check_book(book)
    check_counts(book, counts)
    return ring_round(book, counts) if has_ring_text(book, counts) else None


def counts_between(book, bounds):
    """Returns counts that balance within the bounds, None if there are none."""
    check_book(book)
    check_bounds(book, bounds)
    counts, _ = evened(book, bounds)
    return counts


def bar(book, bounds):
    """Returns a lot of places that must hand on more than can come in, None if counts balance within the bounds."""
    check_book(book)
    check_bounds(book, bounds)
    _, lot = evened(book, bounds)
    return lot


def bar_holds(book, bounds, value):
    """Tells whether any object is a lot of places that must hand on more than can come in."""
    check_book(book)
    check_bounds(book, bounds)
    if not is_ascending(value):
        return False
    spots = begun(book)
    if not all([place in spots for place in value]):
        return False
    pairs = list(zip(book[1], bounds))
    out = [least for window, (least, _) in pairs if window[:-1] in value and window[1:] not in value]
    into = [most for window, (_, most) in pairs if window[:-1] not in value and window[1:] in value]
    return sum(out) > sum(into)


def most_of(book, bounds, window):
    """Returns the greatest count of a window in counts that balance within the bounds, None if there are none."""
    return furthest(book, bounds, window, 1)


def least_of(book, bounds, window):
    """Returns the least count of a window in counts that balance within the bounds, None if there are none."""
    return furthest(book, bounds, window, -1)


def is_counts(book, value):
    """Tells whether any object is counts for what surely is a book."""
    if not isinstance(value, tuple) or len(value) != len(book[1]):
        return False
    return all([is_whole(count) and count >= 0 for count in value])


def is_bounds(book, value):
    """Tells whether any object is bounds for what surely is a book."""
    if not isinstance(value, tuple) or len(value) != len(book[1]):
        return False
    return all([is_bound(pair) for pair in value])


def is_bound(value):
    """Tells whether any object is the least and the most that a count may be."""
    if not isinstance(value, tuple) or len(value) != 2:
        return False
    least, most = value
    return is_whole(least) and is_whole(most) and 0 <= least <= most <= 10 ** 30


def check_counts(book, counts):
    """Refuses what is no counts for what surely is a book."""
    if not is_counts(book, counts):
        raise InvalidCounts(rebuilt(counts))


def check_bounds(book, bounds):
    """Refuses what is no bounds for what surely is a book."""
    if not is_bounds(book, bounds):
        raise InvalidBounds(rebuilt(bounds))


def has_ring_text(book, counts):
    """Tells whether some ring text has what surely are counts for a book."""
    used = tuple([window for window, count in zip(book[1], counts) if count > 0])
    return used != () and balance(book, counts) and closed_lot((book[0], used)) is None


def surpluses(book, counts):
    """Returns a dict from each place to the counts of the windows that end there, less those that begin there."""
    found = {place: 0 for place in begun(book)}
    for window, count in zip(book[1], counts):
        found[window[1:]] += count
        found[window[:-1]] -= count
    return found


def ring_round(book, counts):
    """Returns a ring text with counts that balance and whose windows have no closed lot."""
    left = {place: [] for place in begun(book)}
    for window, count in zip(book[1], counts):
        left[window[:-1]].extend([window[1:]] * count)
    walk = [place for place in left if left[place]][:1]
    back = []
    # Where the walk gets stuck it has come back round; what is left joins on at a place behind.
    while walk:
        onward = left[walk[-1]]
        if onward:
            walk.append(onward.pop())
        else:
            back.append(walk.pop())
    back.reverse()
    return "".join([place[-1] for place in back[1:]])


def evened(book, bounds):
    """Returns counts that balance within the bounds and None, or, if there are none, None and a lot that bars them."""
    counts = tuple([least for least, _ in bounds])
    while True:
        over = surpluses(book, counts)
        starts = [place for place in over if over[place] > 0]
        if not starts:
            return counts, None
        links = links_with_room(book, bounds, counts, None)
        came = reached(starts, links)
        short = [place for place in came if over[place] < 0]
        if not short:
            # All that leads there is at its least, all that leads out at its most: what is beside it must hand on more.
            return None, tuple([place for place in over if place not in came])
        # A nearest one, so that there are few rounds, however great the bounds are.
        path = trail(came, short[0])
        counts = moved(bounds, counts, moves_along(links, path), min(over[path[0]], -over[path[-1]]))


def furthest(book, bounds, window, sign):
    """Returns the greatest (sign 1) or least (sign -1) count of a window in counts that balance, None without such."""
    check_book(book)
    check_bounds(book, bounds)
    check_window(book, window)
    counts, _ = evened(book, bounds)
    if counts is None:
        return None
    at = book[1].index(window)
    one, other = (window[1:], window[:-1]) if sign == 1 else (window[:-1], window[1:])
    while True:
        left = room(bounds[at], counts[at], sign)
        links = links_with_room(book, bounds, counts, at)
        came = reached([one], links)
        if left == 0 or other not in came:
            return counts[at]
        moves = moves_along(links, trail(came, other)) + [(at, sign)]
        counts = moved(bounds, counts, moves, left)


def room(bound, count, sign):
    """Returns how far a count may go up (sign 1) or down (sign -1) within its bound."""
    least, most = bound
    return most - count if sign == 1 else count - least


def links_with_room(book, bounds, counts, held):
    """Returns a dict from each place to a dict of the places that it can hand one more to, each with a move.

    A move is the index of a window and 1, if its count goes up, or -1, if it goes down. That of
    the window with the index held, if it is not None, stays.
    """
    links = {place: {} for place in begun(book)}
    for at, window in enumerate(book[1]):
        if at != held and room(bounds[at], counts[at], 1) > 0:
            links[window[:-1]][window[1:]] = (at, 1)
        if at != held and room(bounds[at], counts[at], -1) > 0:
            links[window[1:]][window[:-1]] = (at, -1)
    return links


def moves_along(links, path):
    """Returns the list of the moves along a path of places."""
    return [links[one][other] for one, other in zip(path, path[1:])]


def moved(bounds, counts, moves, limit):
    """Returns the counts after moves, each by as much as all of them have room for, but not more than the limit."""
    many = min([limit] + [room(bounds[at], counts[at], sign) for at, sign in moves])
    changed = list(counts)
    for at, sign in moves:
        changed[at] += sign * many
    return tuple(changed)
